package crc_test

import (
	"bytes"
	"slices"
	"testing"

	"locum/api"
	"locum/crc"
)

// Promises P2.2 to P2.4, each for what Sum and Add return, without the rule that they follow.

// texts are byte strings of many sizes, with zeros at either end among them: a sum that skips those would go unnoticed elsewhere.
func texts() [][]byte {
	l := [][]byte{nil, {0}, {1}, {0xff}, {0, 0}, {0, 1}, {1, 0}, []byte("123456789"), bytes.Repeat([]byte{0}, 40), bytes.Repeat([]byte{0xff}, 40)}
	for size := range 70 {
		l = append(l, random(int64(100+size), size))
	}
	return append(l, random(5, 600), random(6, 1025))
}

// P2.2, at every place where the bytes can be cut, both ends included.
func TestInPieces(t *testing.T) {
	for _, b := range texts() {
		want := crc.Sum(b)
		for cut := range len(b) + 1 {
			if got := crc.Add(crc.Sum(b[:cut]), b[cut:]); got != want {
				t.Errorf("Add of the Sum of %d of %d bytes %.20x and the others = %08x, want %08x", cut, len(b), b, got, want)
			}
		}
	}
}

func TestInManyPieces(t *testing.T) {
	for _, b := range texts() {
		want := crc.Sum(b)
		for size := 1; size < 12; size++ {
			got := crc.Sum(nil)
			for piece := range slices.Chunk(b, size) {
				got = crc.Add(got, piece)
			}
			if got != want {
				t.Errorf("%d bytes %.20x, %d at a time: %08x, want %08x", len(b), b, size, got, want)
			}
		}
	}
	b := random(7, api.MaxBody)
	want := crc.Sum(b)
	for _, cut := range []int{0, 1, 2, 255, 256, api.MaxBody / 2, api.MaxBody - 1, api.MaxBody} {
		if got := crc.Add(crc.Sum(b[:cut]), b[cut:]); got != want {
			t.Errorf("MaxBody bytes cut at %d: %08x, want %08x", cut, got, want)
		}
	}
}

// changeEach changes the byte at a place in each way that there is, single bits among them, and restores it.
func changeEach(t *testing.T, b []byte, at int) {
	t.Helper()
	want := crc.Sum(b)
	for mask := 1; mask < 256; mask++ {
		b[at] ^= byte(mask)
		if got := crc.Sum(b); got == want {
			t.Errorf("%d bytes, of which byte %d was changed by %02x: the Sum is %08x still", len(b), at, mask, got)
		}
		b[at] ^= byte(mask)
	}
}

// P2.3, at every place.
func TestOneByteChanged(t *testing.T) {
	for _, b := range texts() {
		if len(b) > 70 {
			continue
		}
		b = slices.Clone(b)
		for at := range b {
			changeEach(t, b, at)
		}
	}
}

func TestOneByteOfManyChanged(t *testing.T) {
	for _, size := range []int{255, 256, 257, 600, api.MaxBody} {
		for _, b := range [][]byte{random(8, size), make([]byte, size), bytes.Repeat([]byte{0xff}, size)} {
			for _, at := range []int{0, 1, 2, 3, 4, size / 3, size / 2, size - 5, size - 4, size - 3, size - 2, size - 1} {
				changeEach(t, b, at)
			}
		}
	}
}

// checkXor compares the Sum of a xor of three byte strings of the same length with the xor of their Sums.
func checkXor(t *testing.T, a, b, c []byte) {
	t.Helper()
	x := make([]byte, len(a))
	for i := range x {
		x[i] = a[i] ^ b[i] ^ c[i]
	}
	if got, want := crc.Sum(x), crc.Sum(a)^crc.Sum(b)^crc.Sum(c); got != want {
		t.Errorf("%.20x, %.20x, %.20x (%d bytes each): the Sum of the xor is %08x, the xor of the Sums %08x", a, b, c, len(a), got, want)
	}
}

// P2.4, for lengths 0 and 1.
func TestXorOfShort(t *testing.T) {
	checkXor(t, nil, nil, nil)
	checkXor(t, []byte{}, nil, []byte{})
	for a := range 256 {
		for b := range 256 {
			for _, c := range []byte{0x00, 0x01, 0x10, 0x80, 0xa5, 0xff} {
				checkXor(t, []byte{byte(a)}, []byte{byte(b)}, []byte{c})
			}
		}
	}
}

func TestXorOfLonger(t *testing.T) {
	sizes := []int{600, 1025, api.MaxText, api.MaxBody}
	for size := range 100 {
		sizes = append(sizes, size)
	}
	for _, size := range sizes {
		a, b, c := random(9, size), random(10, size), random(11, size)
		zeros, ones := make([]byte, size), bytes.Repeat([]byte{0xff}, size)
		checkXor(t, a, b, c)
		checkXor(t, a, a, b)
		checkXor(t, a, a, a)
		checkXor(t, a, b, zeros)
		checkXor(t, a, b, ones)
		checkXor(t, zeros, ones, c)
		checkXor(t, zeros, zeros, zeros)
		checkXor(t, ones, ones, ones)
	}
}
