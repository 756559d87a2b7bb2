package frame_test

import (
	"bytes"
	"encoding/binary"
	"hash/crc32"
	"math"
	"math/rand"
	"slices"
	"strings"
	"testing"

	"locum/api"
	"locum/frame"
)

// Promise P3.1: F1 and F2.

// withSum appends the checksum of everything after the first byte, by Go's own library.
func withSum(b []byte) []byte {
	return binary.BigEndian.AppendUint32(slices.Clone(b), crc32.ChecksumIEEE(b[1:]))
}

// reference is the frame as the document words it, also for a body that is too long.
func reference(kind byte, body []byte) []byte {
	b := binary.BigEndian.AppendUint16([]byte{0xf7, kind}, uint16(len(body)))
	return withSum(append(b, body...))
}

// random are bytes that differ from seed to seed.
func random(seed int64, size int) []byte {
	b := make([]byte, size)
	rand.New(rand.NewSource(seed)).Read(b)
	return b
}

// kinds are some kinds, both ends and that of the first byte of a frame among them.
var kinds = []byte{0, 1, 2, 19, 0x7f, 0x80, 0xf7, 0xff}

// bodies are of all short sizes, around the sizes at which a byte of the length ends, and at the bound; some look like frames.
func bodies() [][]byte {
	l := [][]byte{nil, {}, {0}, {0xf7}, {0xff}, []byte("hello"), bytes.Repeat([]byte{0xf7}, 40), make([]byte, 300), reference(1, nil), reference(2, []byte("a frame"))[:9]}
	for size := range 40 {
		l = append(l, random(int64(size), size))
	}
	for _, size := range []int{127, 128, 255, 256, 257, 511, 512, 1000, api.MaxText, api.MaxBody - 1, api.MaxBody} {
		l = append(l, random(int64(size), size))
	}
	return l
}

// The values are written out, so that the reference is tested too.
func TestExamples(t *testing.T) {
	long := strings.Repeat("\x00", 258)
	for _, c := range []struct {
		kind       byte
		body, want string
	}{
		{1, "", "\xf7\x01\x00\x00\xfe\x83\xb3\x25"},
		{0, "", "\xf7\x00\x00\x00\xff\x41\xd9\x12"},
		{0xff, "", "\xf7\xff\x00\x00\x41\xd9\xed\xff"},
		{1, "hello", "\xf7\x01\x00\x05hello\x09\x77\x1f\xdf"},
		{0xf7, "\xf7", "\xf7\xf7\x00\x01\xf7\x00\x37\xa7\xfc"},
		{2, long, "\xf7\x02\x01\x02" + long + "\x70\x07\xb1\x1e"},
	} {
		if b, err := frame.Put(c.kind, []byte(c.body)); string(b) != c.want || err != api.OK {
			t.Errorf("Put(%d, %q) = %x, %v, want %x", c.kind, c.body, b, err, c.want)
		}
		if b := reference(c.kind, []byte(c.body)); string(b) != c.want {
			t.Errorf("the reference for %d, %q: %x, want %x", c.kind, c.body, b, c.want)
		}
		kind, body, next, err := frame.Get([]byte(c.want), 0)
		if kind != c.kind || string(body) != c.body || next != len(c.want) || err != api.OK {
			t.Errorf("Get(%x, 0) = %d, %q, %d, %v, want %d, %q", c.want, kind, body, next, err, c.kind, c.body)
		}
	}
}

func TestPut(t *testing.T) {
	for _, body := range bodies() {
		for _, kind := range kinds {
			if b, err := frame.Put(kind, body); !bytes.Equal(b, reference(kind, body)) || err != api.OK {
				t.Errorf("Put(%d, %d bytes %.20x) = %.30x, %v, want %.30x", kind, len(body), body, b, err, reference(kind, body))
			}
		}
	}
	for kind := range 256 {
		if b, err := frame.Put(byte(kind), []byte("body")); !bytes.Equal(b, reference(byte(kind), []byte("body"))) || err != api.OK {
			t.Errorf("Put(%d, ..) = %x, %v", kind, b, err)
		}
	}
}

func TestPutNone(t *testing.T) {
	for _, none := range [][]byte{nil, {}, []byte("rest")[:0]} {
		if b, err := frame.Put(1, none); string(b[:4]) != "\xf7\x01\x00\x00" || len(b) != 8 || err != api.OK {
			t.Errorf("Put(1, no bytes) = %x, %v", b, err)
		}
	}
}

func TestPutBound(t *testing.T) {
	b, err := frame.Put(3, make([]byte, api.MaxBody))
	if len(b) != api.MaxBody+8 || string(b[:4]) != "\xf7\x03\x20\x00" || err != api.OK {
		t.Errorf("Put of MaxBody bytes: %d bytes, %.4x, %v", len(b), b, err)
	}
	for _, size := range []int{api.MaxBody + 1, api.MaxBody + 2, 2 * api.MaxBody, 65535, 65536, 65537, 65536 + api.MaxBody, 1 << 20} {
		for _, kind := range kinds {
			if b, err := frame.Put(kind, make([]byte, size)); b != nil || err != api.ErrTooMany {
				t.Errorf("Put(%d, %d bytes): %d bytes, %v, want ErrTooMany", kind, size, len(b), err)
			}
		}
	}
}

// bad are bytes that do not begin with a frame: each with the error that Get has at their offset.
type bad struct {
	name string
	b    []byte
	want api.Errno
}

// allBad are bytes of each kind of error, in the order of F1; where several errors apply, the first one is asked for.
func allBad() []bad {
	l := []bad{{"no byte", nil, api.ErrShort}}
	for _, first := range []byte{0x00, 0x01, 0x77, 0xf6, 0xf8, 0xe7, 0xff} {
		l = append(l,
			bad{"no F7, one byte", []byte{first}, api.ErrMagic},
			bad{"no F7, seven bytes", []byte{first, 1, 0, 0, 0, 0, 0}, api.ErrMagic},
			bad{"no F7, too long", []byte{first, 1, 0xff, 0xff, 0, 0, 0, 0}, api.ErrMagic},
			bad{"no F7, not complete", []byte{first, 1, 0, 1, 0, 0, 0, 0}, api.ErrMagic},
			bad{"no F7, a wrong checksum", []byte{first, 1, 0, 0, 0, 0, 0, 0}, api.ErrMagic},
			bad{"no F7, all else is right", append([]byte{first}, reference(1, []byte("hello"))[1:]...), api.ErrMagic})
	}
	for _, start := range [][]byte{reference(1, nil), reference(0xf7, []byte("hello")), {0xf7, 1, 0xff, 0xff, 0, 0, 0}, {0xf7, 1, 0x20, 0x01, 0, 0, 0}, bytes.Repeat([]byte{0xf7}, 7)} {
		for size := 1; size < 8; size++ {
			l = append(l, bad{"one to seven bytes", start[:size], api.ErrShort})
		}
	}
	return slices.Concat(l, tooLong(), notComplete(), wrongSums())
}

func tooLong() []bad {
	var l []bad
	for _, size := range []int{api.MaxBody + 1, api.MaxBody + 2, api.MaxBody + 255, 2 * api.MaxBody, 32768, 65535} {
		whole := reference(1, make([]byte, size))
		spoilt := slices.Clone(whole)
		spoilt[len(spoilt)-1]++
		l = append(l,
			bad{"too long, all else is right", whole, api.ErrTooMany},
			bad{"too long, a wrong checksum", spoilt, api.ErrTooMany},
			bad{"too long, a byte is missing", whole[:len(whole)-1], api.ErrTooMany},
			bad{"too long, eight bytes", whole[:8], api.ErrTooMany})
	}
	return l
}

func notComplete() []bad {
	var l []bad
	for _, size := range []int{1, 2, 3, 4, 5, 255, 256, 257, 1000, api.MaxBody - 1, api.MaxBody} {
		whole := reference(1, random(int64(size), size))
		for _, left := range []int{8, 9, 10, size, size + 4, size + 5, size + 6, size + 7} {
			if left < 8 || left >= len(whole) {
				continue
			}
			spoilt := slices.Clone(whole[:left])
			spoilt[left-1]++
			l = append(l,
				bad{"not complete", whole[:left], api.ErrShort},
				bad{"not complete, its end changed", spoilt, api.ErrShort},
				bad{"not complete, its end a checksum", withSum(whole[:left-4]), api.ErrShort})
		}
	}
	// A length of 5 with the low byte first is 1280.
	return append(l, bad{"a length with the low byte first", withSum([]byte("\xf7\x01\x05\x00hello")), api.ErrShort})
}

func wrongSums() []bad {
	var l []bad
	for _, body := range []string{"", "x", "hello", strings.Repeat("\xf7", 300), strings.Repeat("ab", api.MaxBody/2)} {
		whole := reference(2, []byte(body))
		end := len(whole) - 4
		sum := binary.BigEndian.Uint32(whole[end:])
		for _, wrong := range []uint32{sum + 1, sum - 1, sum ^ 1<<31, sum ^ 1<<16, ^sum, 0, math.MaxUint32, crc32.ChecksumIEEE(whole[:end]), crc32.ChecksumIEEE(whole[2:end]), crc32.ChecksumIEEE(whole[4:end]), crc32.Checksum(whole[1:end], crc32.MakeTable(crc32.Castagnoli))} {
			l = append(l, bad{"a wrong checksum", binary.BigEndian.AppendUint32(slices.Clone(whole[:end]), wrong), api.ErrSum})
		}
		l = append(l, bad{"a checksum with the low byte first", binary.LittleEndian.AppendUint32(slices.Clone(whole[:end]), sum), api.ErrSum})
		whole[1]++
		l = append(l, bad{"another kind", whole, api.ErrSum})
	}
	shorter := reference(1, []byte("hello"))
	shorter[3]--
	return append(l, bad{"a length that is less by one", shorter, api.ErrSum})
}

// before are bytes that precede what is read: none, single ones, and a frame.
func before() [][]byte {
	return [][]byte{nil, {0}, {0xf7}, {0xf7, 0xf7, 0, 0}, reference(3, []byte("ahead"))}
}

func TestGetErrors(t *testing.T) {
	for _, c := range allBad() {
		for _, ahead := range before() {
			b := append(slices.Clone(ahead), c.b...)
			kind, body, next, err := frame.Get(b, len(ahead))
			if kind != 0 || body != nil || next != 0 || err != c.want {
				t.Errorf("%s: Get(%d bytes %.30x, %d) = %d, %.20x, %d, %v, want %v", c.name, len(b), b, len(ahead), kind, body, next, err, c.want)
			}
		}
	}
}

func TestNoMagic(t *testing.T) {
	whole := reference(1, []byte("hello"))
	for first := range 256 {
		if first == 0xf7 {
			continue
		}
		whole[0] = byte(first)
		if kind, body, next, err := frame.Get(whole, 0); kind != 0 || body != nil || next != 0 || err != api.ErrMagic {
			t.Errorf("Get(%x, 0) = %d, %x, %d, %v, want ErrMagic", whole, kind, body, next, err)
		}
	}
}

// An offset outside of the bytes yields ErrArg, whatever the bytes are; that of their end yields ErrShort.
func TestOffsets(t *testing.T) {
	for _, b := range [][]byte{nil, {}, {0}, {0xf7}, reference(1, nil), reference(1, []byte("hello")), slices.Repeat(reference(2, []byte("x")), 3)} {
		for _, at := range []int{math.MinInt, math.MinInt + 8, -9, -8, -4, -1, len(b) + 1, len(b) + 2, len(b) + 8, math.MaxInt - 8, math.MaxInt} {
			if kind, body, next, err := frame.Get(b, at); kind != 0 || body != nil || next != 0 || err != api.ErrArg {
				t.Errorf("Get(%x, %d) = %d, %x, %d, %v, want ErrArg", b, at, kind, body, next, err)
			}
		}
		if kind, body, next, err := frame.Get(b, len(b)); kind != 0 || body != nil || next != 0 || err != api.ErrShort {
			t.Errorf("Get(%x, %d) = %d, %x, %d, %v, want ErrShort", b, len(b), kind, body, next, err)
		}
	}
}

// A frame is read at its own offset only, also where one lies in the body of another.
func TestGetReadsAtItsOffset(t *testing.T) {
	inner := reference(7, []byte("in"))
	first, second := reference(1, inner), reference(2, nil)
	b := slices.Concat(first, second, []byte{0xf7})
	end := len(first) + len(second)
	for at := range len(b) + 1 {
		kind, body, next, err := frame.Get(b, at)
		var want []byte
		var wantKind byte
		wantNext, wantErr := 0, api.ErrMagic
		switch at {
		case 0:
			wantKind, want, wantNext, wantErr = 1, inner, len(first), api.OK
		case 4:
			wantKind, want, wantNext, wantErr = 7, []byte("in"), 4+len(inner), api.OK
		case len(first):
			wantKind, wantNext, wantErr = 2, end, api.OK
		case end, end + 1:
			wantErr = api.ErrShort
		}
		if kind != wantKind || !bytes.Equal(body, want) || next != wantNext || err != wantErr {
			t.Errorf("Get(%x, %d) = %d, %x, %d, %v, want %d, %x, %d, %v", b, at, kind, body, next, err, wantKind, want, wantNext, wantErr)
		}
	}
}

// some are records that differ in kind and body, an empty body and one of MaxBody bytes among them.
func some(n int) ([]byte, [][]byte) {
	var k []byte
	var l [][]byte
	all := bodies()
	for i := range n {
		k = append(k, kinds[i*5%len(kinds)])
		l = append(l, all[(i*7+len(all)-1)%len(all)])
	}
	return k, l
}

// concat are the frames of some records.
func concat(k []byte, l [][]byte) []byte {
	var b []byte
	for i, body := range l {
		b = append(b, reference(k[i], body)...)
	}
	return b
}

func equalBodies(a, b [][]byte) bool { return slices.EqualFunc(a, b, bytes.Equal) }

// checkAll holds All against the records that it should find.
func checkAll(t *testing.T, name string, b, k []byte, l [][]byte, end int) {
	t.Helper()
	gotKinds, gotBodies, at := frame.All(b)
	if !bytes.Equal(gotKinds, k) || !equalBodies(gotBodies, l) || at != end {
		t.Errorf("%s: All of %d bytes %.30x = kinds %x, %d bodies, %d, want kinds %x, %d bodies, %d", name, len(b), b, gotKinds, len(gotBodies), at, k, len(l), end)
	}
}

func TestAll(t *testing.T) {
	checkAll(t, "nil", nil, nil, nil, 0)
	checkAll(t, "no bytes", []byte{}, nil, nil, 0)
	for _, body := range bodies() {
		for _, kind := range kinds {
			b := reference(kind, body)
			checkAll(t, "one frame", b, []byte{kind}, [][]byte{body}, len(b))
		}
	}
	for _, n := range []int{2, 3, 4, 5, 10, 100, 500} {
		k, l := some(n)
		b := concat(k, l)
		checkAll(t, "many frames", b, k, l, len(b))
	}
	k, l := bytes.Repeat([]byte{9}, 5000), make([][]byte, 5000)
	checkAll(t, "many frames without a body", concat(k, l), k, l, 40000)
}

// What follows the first error is not read, be it frames.
func TestAllUpToEachError(t *testing.T) {
	for _, n := range []int{0, 1, 2, 5} {
		k, l := some(n)
		good := concat(k, l)
		for _, c := range allBad() {
			b := append(slices.Clone(good), c.b...)
			checkAll(t, c.name, b, k, l, len(good))
			if c.want == api.ErrSum || c.want == api.ErrMagic {
				checkAll(t, c.name+", with a frame behind", append(b, reference(1, []byte("behind"))...), k, l, len(good))
			}
		}
	}
}

// spoil writes over all of a list's memory, its spare capacity too.
func spoil(l []byte) {
	l = l[:cap(l)]
	for i := range l {
		l[i] ^= 0x5a
	}
}

// spare is b with bytes behind it in its memory.
func spare(b []byte) []byte { return slices.Concat(b, []byte("spare"))[:len(b)] }

// Rule P3: what is passed is neither changed nor kept, and what is returned is new memory.
func TestMemoryOfPut(t *testing.T) {
	for _, body := range bodies() {
		passed := spare(body)
		want := reference(5, body)
		put, _ := frame.Put(5, passed)
		again, _ := frame.Put(5, passed)
		spoil(put)
		if !bytes.Equal(passed, body) || string(passed[:len(body)+5]) != string(body)+"spare" {
			t.Errorf("Put changes what is passed, or shares its memory (%d bytes)", len(body))
		}
		if !bytes.Equal(again, want) {
			t.Errorf("two results of Put share memory (%d bytes)", len(body))
		}
		spoil(passed)
		if !bytes.Equal(again, want) {
			t.Errorf("what Put returned changes with what was passed (%d bytes)", len(body))
		}
		if fresh, _ := frame.Put(5, body); !bytes.Equal(fresh, want) {
			t.Errorf("Put keeps something from call to call (%d bytes)", len(body))
		}
	}
}

func TestMemoryOfGet(t *testing.T) {
	for _, want := range bodies() {
		b := slices.Concat([]byte("ab"), reference(5, want), []byte("cd"))
		passed := spare(b)
		_, body, _, _ := frame.Get(passed, 2)
		_, again, _, _ := frame.Get(passed, 2)
		spoil(body)
		if string(passed[:len(b)+5]) != string(b)+"spare" {
			t.Errorf("Get changes what is passed, or shares its memory (%d bytes)", len(want))
		}
		if !bytes.Equal(again, want) {
			t.Errorf("two results of Get share memory (%d bytes)", len(want))
		}
		spoil(passed)
		if !bytes.Equal(again, want) {
			t.Errorf("what Get returned changes with what was passed (%d bytes)", len(want))
		}
	}
}

func TestMemoryOfAll(t *testing.T) {
	k, l := some(20)
	b := append(concat(k, l), "end"...)
	passed := spare(b)
	gotKinds, gotBodies, _ := frame.All(passed)
	againKinds, againBodies, _ := frame.All(passed)
	for i := range gotBodies {
		spoil(gotBodies[i])
		if !equalBodies(gotBodies[i+1:], l[i+1:]) || !bytes.Equal(gotKinds, k) {
			t.Fatalf("body %d of All shares memory with a later one, or with the kinds", i)
		}
	}
	spoil(gotKinds)
	clear(gotBodies[:cap(gotBodies)])
	if string(passed[:len(b)+5]) != string(b)+"spare" {
		t.Error("All changes what is passed, or shares its memory")
	}
	spoil(passed)
	if !bytes.Equal(againKinds, k) || !equalBodies(againBodies, l) {
		t.Error("what All returned changes with another result, or with what was passed")
	}
}
