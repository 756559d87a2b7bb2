// Package wire is layer 1: it encodes integers, byte strings and lists of integers, each in exactly one way.
package wire

import (
	"bytes"
	"iter"

	"locum/api"
)

const (
	digitBits = 7
	more      = 1 << digitBits // added to each digit that another one follows

	// 64 bits are nine digits of seven bits, and one bit: the tenth digit is 1 at most.
	lastIndex = 9
	lastMost  = 1
)

// PutInt returns the bytes of n.
func PutInt(n int64) []byte {
	var b []byte
	for digit, last := range digits(fold(n)) {
		if !last {
			digit += more
		}
		b = append(b, digit)
	}
	return b
}

// Int returns the integer at an offset, and the offset after its bytes.
func Int(b []byte, at int) (int64, int, api.Errno) {
	if at < 0 || at > len(b) {
		return 0, 0, api.ErrArg
	}
	u, next, err := uint64(0), 0, api.ErrEnd
reading:
	for i, digit := range b[at:] {
		switch {
		case i == lastIndex && digit > lastMost, i > 0 && digit == 0:
			// A digit too many, or one that says nothing: fewer bytes would do.
			err = api.ErrLong
			break reading
		case digit < more:
			u |= uint64(digit) << (digitBits * i)
			next, err = at+i+1, api.OK
			break reading
		}
		u |= uint64(digit-more) << (digitBits * i)
	}
	if err != api.OK {
		return 0, 0, err
	}
	return unfold(u), next, api.OK
}

// PutText returns the bytes of a byte string.
func PutText(s []byte) ([]byte, api.Errno) {
	if len(s) > api.MaxText {
		return nil, api.ErrTooMany
	}
	return append(PutInt(int64(len(s))), s...), api.OK
}

// Text returns the byte string at an offset, and the offset after its bytes.
func Text(b []byte, at int) ([]byte, int, api.Errno) {
	size, from, err := length(b, at, api.MaxText)
	if err != api.OK {
		return nil, 0, err
	}
	if len(b)-from < size {
		return nil, 0, api.ErrEnd
	}
	return bytes.Clone(b[from : from+size]), from + size, api.OK
}

// PutInts returns the bytes of a list.
func PutInts(l []int64) ([]byte, api.Errno) {
	if len(l) > api.MaxList {
		return nil, api.ErrTooMany
	}
	b := PutInt(int64(len(l)))
	for _, n := range l {
		b = append(b, PutInt(n)...)
	}
	return b, api.OK
}

// Ints returns the list at an offset, and the offset after its bytes.
func Ints(b []byte, at int) ([]int64, int, api.Errno) {
	size, next, err := length(b, at, api.MaxList)
	if err != api.OK {
		return nil, 0, err
	}
	l := make([]int64, size)
	for i := range l {
		l[i], next, err = Int(b, next)
		if err != api.OK {
			return nil, 0, err
		}
	}
	return l, next, api.OK
}

// length reads the length that precedes a text or a list, which has a bound.
func length(b []byte, at int, most int64) (int, int, api.Errno) {
	n, next, err := Int(b, at)
	if err != api.OK {
		return 0, 0, err
	}
	if n < 0 || n > most {
		return 0, 0, api.ErrTooMany
	}
	return int(n), next, api.OK
}

// digits produces the digits of u, the lowest one first, and with each whether it is the last one.
func digits(u uint64) iter.Seq2[byte, bool] {
	return func(yield func(byte, bool) bool) {
		for ; u >= more; u >>= digitBits {
			if !yield(byte(u%more), false) {
				return
			}
		}
		yield(byte(u), true)
	}
}

// fold interleaves the negative integers with the others, so that a small one of either sign has few digits.
func fold(n int64) uint64 {
	if n < 0 {
		// -1 - n, unlike -n, has no overflow at the least integer.
		return 2*uint64(-1-n) + 1
	}
	return 2 * uint64(n)
}

// unfold is the inverse of fold.
func unfold(u uint64) int64 {
	half := int64(u / 2)
	if u%2 == 1 {
		return -1 - half
	}
	return half
}
