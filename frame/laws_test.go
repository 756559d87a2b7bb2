package frame_test

import (
	"bytes"
	"slices"
	"testing"

	"locum/api"
	"locum/frame"
)

// Promises P3.2 to P3.4, each for what Put, Get and All return, without the layout that they follow.

// put is a frame that must be there.
func put(t *testing.T, kind byte, body []byte) []byte {
	t.Helper()
	b, err := frame.Put(kind, body)
	if err != api.OK {
		t.Fatalf("Put(%d, %d bytes): %v", kind, len(body), err)
	}
	return b
}

// around are bytes that precede and follow a frame: none, single ones, the start of a frame, and a frame.
func around(t *testing.T) [][]byte {
	t.Helper()
	whole := put(t, 4, []byte("neighbour"))
	return [][]byte{nil, {0}, {0xf7}, {0xff, 0xff, 0xff, 0xff}, whole[:5], whole[3:], whole}
}

// P3.2: what is put is got, wherever it stands.
func TestPutIsGot(t *testing.T) {
	for _, body := range bodies() {
		for _, kind := range kinds {
			written := put(t, kind, body)
			for _, ahead := range around(t) {
				for _, behind := range around(t) {
					b := slices.Concat(ahead, written, behind)
					gotKind, got, next, err := frame.Get(b, len(ahead))
					if gotKind != kind || !bytes.Equal(got, body) || next != len(ahead)+len(written) || err != api.OK {
						t.Errorf("Get of Put(%d, %d bytes %.20x), between %x and %x = %d, %.20x, %d, %v", kind, len(body), body, ahead, behind, gotKind, got, next, err)
					}
				}
			}
		}
	}
}

func TestPutOfEachKindAndSizeIsGot(t *testing.T) {
	for kind := range 256 {
		for _, body := range [][]byte{nil, {byte(kind)}, []byte("a body")} {
			b := put(t, byte(kind), body)
			if gotKind, got, next, err := frame.Get(b, 0); gotKind != byte(kind) || !bytes.Equal(got, body) || next != len(b) || err != api.OK {
				t.Errorf("Get of Put(%d, %q) = %d, %q, %d, %v", kind, body, gotKind, got, next, err)
			}
		}
	}
	most := random(12, api.MaxBody)
	for size := range api.MaxBody + 1 {
		b := put(t, 1, most[:size])
		if _, got, next, err := frame.Get(b, 0); !bytes.Equal(got, most[:size]) || next != len(b) || err != api.OK {
			t.Errorf("Get of Put of %d bytes: %d bytes, %d, %v", size, len(got), next, err)
		}
	}
}

// checkBack reads at each offset: what is there is put back as the same bytes.
func checkBack(t *testing.T, b []byte) int {
	t.Helper()
	found := 0
	for at := range len(b) + 1 {
		kind, body, next, err := frame.Get(b, at)
		if err != api.OK {
			continue
		}
		found++
		if next <= at || next > len(b) {
			t.Fatalf("Get(%.30x, %d): the offset after it is %d", b, at, next)
		}
		if back := put(t, kind, body); !bytes.Equal(back, b[at:next]) {
			t.Errorf("Get(%.30x, %d) = %d, %.20x, %d, put back as %.30x", b, at, kind, body, next, back)
		}
	}
	return found
}

// P3.2: what is got is put back; also frames within bodies, and those that a change has made.
func TestGotIsPut(t *testing.T) {
	k, l := some(30)
	if found := checkBack(t, concat(k, l)); found < 30 {
		t.Errorf("%d of 30 frames found", found)
	}
	nested := reference(1, nil)
	for kind := range 20 {
		nested = reference(byte(kind), slices.Concat(nested, nested[:3], []byte{0xf7}))
		if found := checkBack(t, nested); found != kind+2 {
			t.Errorf("%d of %d frames found, one within the other", found, kind+2)
		}
	}
	whole := reference(1, []byte("hello"))
	for at := range whole {
		for mask := 1; mask < 256; mask++ {
			changed := slices.Clone(whole)
			changed[at] ^= byte(mask)
			checkBack(t, changed)
			checkBack(t, withSum(changed[:len(changed)-4]))
		}
	}
}

// P3.3, at every place, both ends included: All, and Get of the frame that is not complete.
func checkTruncated(t *testing.T, k []byte, l [][]byte) {
	t.Helper()
	var b []byte
	var ends []int
	for i, body := range l {
		b = append(b, put(t, k[i], body)...)
		ends = append(ends, len(b))
	}
	for left := range len(b) + 1 {
		n, end := 0, 0
		for n < len(ends) && ends[n] <= left {
			end = ends[n]
			n++
		}
		// What follows in the memory is the rest of the frame: it is not there, all the same.
		checkAll(t, "truncated", b[:left], k[:n], l[:n], end)
		if kind, body, next, err := frame.Get(b[:left], end); kind != 0 || body != nil || next != 0 || err != api.ErrShort {
			t.Errorf("Get at %d of %d bytes that were truncated: %d, %.20x, %d, %v, want ErrShort", end, left, kind, body, next, err)
		}
	}
}

func TestTruncated(t *testing.T) {
	checkTruncated(t, []byte{1}, [][]byte{nil})
	checkTruncated(t, []byte{1, 2, 3}, [][]byte{nil, {}, nil})
	checkTruncated(t, []byte{1, 0xf7, 0, 0xff}, [][]byte{[]byte("a"), {0xf7}, []byte("hello"), make([]byte, 300)})
	checkTruncated(t, []byte{1, 2}, [][]byte{reference(3, reference(4, []byte("inside"))), bytes.Repeat(reference(5, nil), 20)})
	for seed := range int64(20) {
		var l [][]byte
		for i := range seed {
			l = append(l, random(seed+i, int(seed*i%50)))
		}
		checkTruncated(t, random(seed, len(l)), l)
	}
}

func TestTruncatedLong(t *testing.T) {
	checkTruncated(t, []byte{1, 2, 3}, [][]byte{[]byte("ahead"), random(6, api.MaxBody), []byte("behind")})
}

// checkDamage changes the byte at a place of the frame at an offset of b by some masks, and restores it.
func checkDamage(t *testing.T, b []byte, at, place int, masks []byte) {
	t.Helper()
	for _, mask := range masks {
		b[at+place] ^= mask
		if kind, body, next, err := frame.Get(b, at); kind != 0 || body != nil || next != 0 || err != api.ErrSum {
			t.Errorf("a frame of which byte %d was changed by %02x: %d, %.20x, %d, %v, want ErrSum", place, mask, kind, body, next, err)
		}
		b[at+place] ^= mask
	}
}

// P3.4, at every place of short frames, in each way that there is.
func TestDamaged(t *testing.T) {
	var masks []byte
	for mask := 1; mask < 256; mask++ {
		masks = append(masks, byte(mask))
	}
	for _, body := range bodies() {
		if len(body) > 60 {
			continue
		}
		for _, ahead := range around(t) {
			written := put(t, 2, body)
			b := slices.Concat(ahead, written, put(t, 3, []byte("behind")))
			for place := 4; place < len(written); place++ {
				checkDamage(t, b, len(ahead), place, masks)
			}
		}
	}
}

// P3.4, at every place of long frames, in several ways.
func TestDamagedLong(t *testing.T) {
	for _, size := range []int{255, 256, 257, 1000} {
		b := put(t, 1, random(8, size))
		for place := 4; place < len(b); place++ {
			checkDamage(t, b, 0, place, []byte{1, 2, 0x10, 0x80, 0x5a, 0xff})
		}
	}
	b := put(t, 1, random(8, api.MaxBody))
	for place := 4; place < len(b); place++ {
		checkDamage(t, b, 0, place, []byte{1 << (place % 8), 0xff})
	}
}

// A frame that was damaged ends what All returns, and those before it are returned.
func TestAllUpToDamage(t *testing.T) {
	k, l := []byte{1, 2}, [][]byte{[]byte("first"), []byte("second")}
	good := slices.Concat(put(t, 1, l[0]), put(t, 2, l[1]))
	b := slices.Concat(good, put(t, 3, []byte("third")), put(t, 4, []byte("fourth")))
	for place := len(good) + 4; place < len(good)+4+len("third")+4; place++ {
		b[place] ^= 0x11
		checkAll(t, "damaged", b, k, l, len(good))
		b[place] ^= 0x11
	}
	checkAll(t, "restored", b, []byte{1, 2, 3, 4}, [][]byte{l[0], l[1], []byte("third"), []byte("fourth")}, len(b))
}
