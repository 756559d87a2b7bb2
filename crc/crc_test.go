package crc_test

import (
	"bytes"
	"math"
	"math/rand"
	"slices"
	"strings"
	"testing"

	"locum/api"
	"locum/crc"
)

// Promise P2.1: C1.

// reference is the rule of the document, bit by bit.
func reference(sum uint32, b []byte) uint32 {
	register := ^sum
	for _, next := range b {
		register ^= uint32(next)
		for range 8 {
			set := register&1 == 1
			register >>= 1
			if set {
				register ^= 0xedb88320
			}
		}
	}
	return ^register
}

// sums are 0, the greatest one, single bits and their complements, and others.
func sums() []uint32 {
	l := []uint32{0, math.MaxUint32, 0xedb88320, 0xcbf43926, 0x12345678, 0x0f0f0f0f, 0xf0f0f0f0}
	for bit := range 32 {
		l = append(l, 1<<bit, ^uint32(1<<bit))
	}
	return l
}

// random are bytes that differ from seed to seed.
func random(seed int64, size int) []byte {
	b := make([]byte, size)
	rand.New(rand.NewSource(seed)).Read(b)
	return b
}

// longer are byte strings of many sizes, and of bytes of all sorts.
func longer() [][]byte {
	var l [][]byte
	for size := range 300 {
		l = append(l, random(int64(size), size))
	}
	for _, size := range []int{2, 3, 4, 5, 32, 255, 256, 1000} {
		for _, all := range []byte{0x00, 0x01, 0x0f, 0x10, 0x80, 0xf0, 0xff} {
			l = append(l, bytes.Repeat([]byte{all}, size))
		}
	}
	for _, size := range []int{api.MaxText, api.MaxBody, api.MaxBody + 3, 1 << 16, 1<<16 + 1, 1 << 20} {
		l = append(l, random(int64(size), size))
	}
	return l
}

// check holds Sum and Add against the rule.
func check(t *testing.T, b []byte) {
	t.Helper()
	if got, want := crc.Sum(b), reference(0, b); got != want {
		t.Errorf("Sum of %d bytes %.20x = %08x, want %08x", len(b), b, got, want)
	}
	for _, sum := range []uint32{0, 1, 1 << 31, 0x5a5a5a5a, math.MaxUint32 - 1, math.MaxUint32} {
		if got, want := crc.Add(sum, b), reference(sum, b); got != want {
			t.Errorf("Add(%08x, %d bytes %.20x) = %08x, want %08x", sum, len(b), b, got, want)
		}
	}
}

// The values are written out, so that the rule above is tested too.
func TestExamples(t *testing.T) {
	for _, c := range []struct {
		b    string
		want uint32
	}{
		{"123456789", 0xcbf43926},
		{"", 0},
		{"\x00", 0xd202ef8d},
		{"\x01", 0xa505df1b},
		{"\xff", 0xff000000},
		{"a", 0xe8b7be43},
		{"abc", 0x352441c2},
		{"The quick brown fox jumps over the lazy dog", 0x414fa339},
		{strings.Repeat("\x00", 32), 0x190a55ad},
		{strings.Repeat("\xff", 32), 0xff6cab0b},
	} {
		if got := crc.Sum([]byte(c.b)); got != c.want {
			t.Errorf("Sum(%q) = %08x, want %08x", c.b, got, c.want)
		}
		if got := crc.Add(0, []byte(c.b)); got != c.want {
			t.Errorf("Add(0, %q) = %08x, want %08x", c.b, got, c.want)
		}
		if got := reference(0, []byte(c.b)); got != c.want {
			t.Errorf("the rule for %q: %08x, want %08x", c.b, got, c.want)
		}
	}
}

func TestNoBytes(t *testing.T) {
	for _, none := range [][]byte{nil, {}, []byte("rest")[:0]} {
		if got := crc.Sum(none); got != 0 {
			t.Errorf("Sum of no bytes = %08x", got)
		}
		for _, sum := range sums() {
			if got := crc.Add(sum, none); got != sum {
				t.Errorf("Add(%08x, no bytes) = %08x", sum, got)
			}
		}
	}
}

func TestOneByte(t *testing.T) {
	for value := range 256 {
		b := []byte{byte(value)}
		check(t, b)
		for _, sum := range sums() {
			if got, want := crc.Add(sum, b), reference(sum, b); got != want {
				t.Errorf("Add(%08x, %02x) = %08x, want %08x", sum, value, got, want)
			}
		}
	}
}

func TestTwoBytes(t *testing.T) {
	for first := range 256 {
		for second := range 256 {
			check(t, []byte{byte(first), byte(second)})
		}
	}
}

func TestLonger(t *testing.T) {
	for _, b := range longer() {
		check(t, b)
	}
}

func TestAddOfAnySum(t *testing.T) {
	r := rand.New(rand.NewSource(3))
	for _, sum := range sums() {
		for size := range 40 {
			b := random(int64(size), size)
			for _, s := range []uint32{sum, r.Uint32()} {
				if got, want := crc.Add(s, b), reference(s, b); got != want {
					t.Errorf("Add(%08x, %x) = %08x, want %08x", s, b, got, want)
				}
			}
		}
	}
}

// Rule P3: the bytes that are passed are not changed, nor what follows them in their memory, and a call leaves nothing for the next one.
func TestBytesAreNotChanged(t *testing.T) {
	for _, size := range []int{0, 1, 2, 9, 300} {
		memory := random(4, size+20)
		before := slices.Clone(memory)
		b := memory[:size]
		sum, more := crc.Sum(b), crc.Add(7, b)
		if !bytes.Equal(memory, before) {
			t.Errorf("%d bytes were changed", size)
		}
		if again := crc.Sum(b); again != sum {
			t.Errorf("Sum of the same %d bytes: %08x, then %08x", size, sum, again)
		}
		if again := crc.Add(7, b); again != more {
			t.Errorf("Add of the same %d bytes: %08x, then %08x", size, more, again)
		}
		if !bytes.Equal(memory, before) {
			t.Errorf("%d bytes were changed by a later call", size)
		}
	}
}

// Bytes that are changed between two calls are read anew: nothing of the first call is kept.
func TestBytesAreNotKept(t *testing.T) {
	b := []byte("123456788")
	crc.Sum(b)
	b[8] = '9'
	if got := crc.Sum(b); got != 0xcbf43926 {
		t.Errorf("Sum(%q) = %08x", b, got)
	}
}
