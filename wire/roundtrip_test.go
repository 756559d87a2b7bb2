package wire_test

import (
	"bytes"
	"math/rand"
	"slices"
	"testing"

	"locum/api"
	"locum/wire"
)

// Promise P1.2: the round trip.

// around are bytes that precede and follow what was written: none, ends of integers, digits of more.
var around = [][]byte{nil, {0}, {1}, {0x80}, {0xff, 0xff}, bytes.Repeat([]byte{0x80}, 12)}

// everywhere calls check with what was written between all sorts of bytes, and with its offset.
func everywhere(written []byte, check func(b []byte, at int)) {
	for _, before := range around {
		for _, after := range around {
			check(slices.Concat(before, written, after), len(before))
		}
	}
}

func checkInt(t *testing.T, n int64) {
	written := wire.PutInt(n)
	everywhere(written, func(b []byte, at int) {
		got, next, err := wire.Int(b, at)
		if got != n || next != at+len(written) || err != api.OK {
			t.Errorf("Int(%x, %d) = %d, %d, %v, want %d", b, at, got, next, err, n)
		}
	})
}

func checkText(t *testing.T, s []byte) {
	written, err := wire.PutText(s)
	if err != api.OK {
		t.Fatalf("PutText of %d bytes: %v", len(s), err)
	}
	everywhere(written, func(b []byte, at int) {
		got, next, err := wire.Text(b, at)
		if !bytes.Equal(got, s) || next != at+len(written) || err != api.OK {
			t.Errorf("Text of %d bytes at %d: %d bytes, %d, %v", len(s), at, len(got), next, err)
		}
	})
}

func checkInts(t *testing.T, l []int64) {
	written, err := wire.PutInts(l)
	if err != api.OK {
		t.Fatalf("PutInts of %d integers: %v", len(l), err)
	}
	everywhere(written, func(b []byte, at int) {
		got, next, err := wire.Ints(b, at)
		if !slices.Equal(got, l) || next != at+len(written) || err != api.OK {
			t.Errorf("Ints(%x, %d) = %d, %d, %v, want %d", b, at, got, next, err, l)
		}
	})
}

func TestWrittenIsRead(t *testing.T) {
	for _, n := range someIntegers() {
		checkInt(t, n)
	}
	for _, size := range []int{0, 1, 2, 63, 64, 65, 127, 128, 1000, api.MaxText - 1, api.MaxText} {
		checkText(t, filled(size))
	}
	r := rand.New(rand.NewSource(1))
	for size := range api.MaxList + 1 {
		l := make([]int64, size)
		for i := range l {
			l[i] = int64(r.Uint64()) >> r.Intn(64)
		}
		checkInts(t, l)
		checkInt(t, int64(r.Uint64())>>r.Intn(64))
	}
}

// checkRead reads each of the three kinds at an offset: what is there is written back as the same bytes.
func checkRead(t *testing.T, b []byte, at int) {
	if n, next, err := wire.Int(b, at); err == api.OK {
		if back := wire.PutInt(n); !bytes.Equal(back, b[at:next]) {
			t.Errorf("Int(%x, %d) = %d, %d, written back as %x", b, at, n, next, back)
		}
	}
	if s, next, err := wire.Text(b, at); err == api.OK {
		if back, err := wire.PutText(s); err != api.OK || !bytes.Equal(back, b[at:next]) {
			t.Errorf("Text(%x, %d) = %x, %d, written back as %x, %v", b, at, s, next, back, err)
		}
	}
	if l, next, err := wire.Ints(b, at); err == api.OK {
		if back, err := wire.PutInts(l); err != api.OK || !bytes.Equal(back, b[at:next]) {
			t.Errorf("Ints(%x, %d) = %d, %d, written back as %x, %v", b, at, l, next, back, err)
		}
	}
}

func TestReadIsWrittenAllShort(t *testing.T) {
	for first := range 256 {
		checkRead(t, []byte{byte(first)}, 0)
		for second := range 256 {
			checkRead(t, []byte{byte(first), byte(second)}, 0)
			checkRead(t, []byte{byte(first), byte(second)}, 1)
			for _, third := range []byte{0, 1, 2, 0x7f, 0x80, 0x81, 0xff} {
				checkRead(t, []byte{byte(first), byte(second), third}, 0)
			}
		}
	}
}

func TestReadIsWrittenLong(t *testing.T) {
	r := rand.New(rand.NewSource(2))
	digits := []byte{0, 1, 2, 3, 4, 0x10, 0x7f, 0x80, 0x81, 0xff}
	for range 20000 {
		b := make([]byte, r.Intn(100))
		for i := range b {
			b[i] = digits[r.Intn(len(digits))]
		}
		// Short lengths are read whole, and long runs of digits reach the tenth one.
		for i := range min(len(b), r.Intn(14)) {
			b[i] |= 0x80
		}
		checkRead(t, b, r.Intn(len(b)+1))
	}
}

// Two encodings of one integer would differ in the tenth byte, if digits were lost there: exactly one is taken.
func TestTenthByte(t *testing.T) {
	for _, nine := range [][]byte{bytes.Repeat([]byte{0x80}, 9), bytes.Repeat([]byte{0xff}, 9)} {
		for tenth := range 256 {
			_, next, err := wire.Int(append(slices.Clone(nine), byte(tenth), 1), 0)
			if tenth == 1 && (next != 10 || err != api.OK) || tenth != 1 && (next != 0 || err != api.ErrLong) {
				t.Errorf("%x %02x: %d, %v", nine, tenth, next, err)
			}
		}
	}
}
