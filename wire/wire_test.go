package wire_test

import (
	"bytes"
	"math"
	"math/big"
	"slices"
	"strings"
	"testing"

	"locum/api"
	"locum/wire"
)

// Promise P1.1: W1 to W3.

// integers are ordinary ones, and the edges: both ends, and wherever one more digit begins, with their encodings.
var integers = []struct {
	n    int64
	want string
}{
	{0, "\x00"},
	{-1, "\x01"},
	{1, "\x02"},
	{-2, "\x03"},
	{2, "\x04"},
	{5, "\x0a"},
	{63, "\x7e"},
	{-64, "\x7f"},
	{64, "\x80\x01"},
	{-65, "\x81\x01"},
	{300, "\xd8\x04"},
	{8191, "\xfe\x7f"},
	{-8192, "\xff\x7f"},
	{8192, "\x80\x80\x01"},
	{-8193, "\x81\x80\x01"},
	{1<<62 - 1, "\xfe\xff\xff\xff\xff\xff\xff\xff\x7f"},
	{-1 << 62, "\xff\xff\xff\xff\xff\xff\xff\xff\x7f"},
	{1 << 62, "\x80\x80\x80\x80\x80\x80\x80\x80\x80\x01"},
	{-1<<62 - 1, "\x81\x80\x80\x80\x80\x80\x80\x80\x80\x01"},
	{math.MaxInt64, "\xfe\xff\xff\xff\xff\xff\xff\xff\xff\x01"},
	{math.MinInt64, "\xff\xff\xff\xff\xff\xff\xff\xff\xff\x01"},
}

// oddBytes are no integer: each with the error that it has at offset 0.
var oddBytes = []struct {
	name, b string
	want    api.Errno
}{
	{"no byte", "", api.ErrEnd},
	{"one digit of more", "\x80", api.ErrEnd},
	{"two digits of more", "\xff\x81", api.ErrEnd},
	{"nine digits of more", strings.Repeat("\xff", 9), api.ErrEnd},
	{"nine digits of more, all 0", strings.Repeat("\x80", 9), api.ErrEnd},
	{"a last digit 0", "\x80\x00", api.ErrLong},
	{"a last digit 0, with bytes behind", "\x80\x00\x02", api.ErrLong},
	{"a third and last digit 0", "\xff\x81\x00", api.ErrLong},
	{"a tenth and last digit 0", strings.Repeat("\xff", 9) + "\x00", api.ErrLong},
	{"a tenth byte 2", strings.Repeat("\xff", 9) + "\x02", api.ErrLong},
	{"a tenth byte 7f", strings.Repeat("\x80", 9) + "\x7f", api.ErrLong},
	{"a tenth byte 80, and no further one", strings.Repeat("\xff", 9) + "\x80", api.ErrLong},
	{"a tenth byte 81, and a last one", strings.Repeat("\xff", 9) + "\x81\x01", api.ErrLong},
	{"a tenth byte ff", strings.Repeat("\x80", 9) + "\xff", api.ErrLong},
	{"twenty digits", strings.Repeat("\xff", 20), api.ErrLong},
}

// reference is the encoding of n as the document words it, by arithmetic that has no bound.
func reference(n int64) []byte {
	u := big.NewInt(n)
	if n >= 0 {
		u.Mul(u, big.NewInt(2))
	} else {
		u.Sub(big.NewInt(-1), u)
		u.Mul(u, big.NewInt(2))
		u.Add(u, big.NewInt(1))
	}
	var b []byte
	digit := new(big.Int)
	for {
		u.DivMod(u, big.NewInt(128), digit)
		if u.Sign() == 0 {
			return append(b, byte(digit.Int64()))
		}
		b = append(b, byte(digit.Int64())+128)
	}
}

// someIntegers are those around each power of two, of both signs, and all small ones.
func someIntegers() []int64 {
	l := []int64{math.MinInt64, math.MinInt64 + 1, math.MaxInt64 - 1, math.MaxInt64}
	for shift := range 63 {
		for d := int64(-2); d <= 2; d++ {
			l = append(l, int64(1)<<shift+d, -(int64(1)<<shift)+d)
		}
	}
	for n := int64(-20000); n <= 20000; n++ {
		l = append(l, n)
	}
	return l
}

func TestPutInt(t *testing.T) {
	for _, c := range integers {
		if b := wire.PutInt(c.n); string(b) != c.want {
			t.Errorf("PutInt(%d) = %x, want %x", c.n, b, c.want)
		}
	}
	for _, n := range someIntegers() {
		if b, want := wire.PutInt(n), reference(n); !bytes.Equal(b, want) {
			t.Errorf("PutInt(%d) = %x, want %x", n, b, want)
		}
	}
}

func TestInt(t *testing.T) {
	for _, c := range integers {
		n, next, err := wire.Int([]byte(c.want), 0)
		if n != c.n || next != len(c.want) || err != api.OK {
			t.Errorf("Int(%x) = %d, %d, %v, want %d", c.want, n, next, err, c.n)
		}
	}
}

func TestIntErrors(t *testing.T) {
	for _, c := range oddBytes {
		for _, before := range []string{"", "\x00", "\x80", "\xff\xff\xff\xff"} {
			n, next, err := wire.Int([]byte(before+c.b), len(before))
			if n != 0 || next != 0 || err != c.want {
				t.Errorf("%s: Int(%x, %d) = %d, %d, %v, want %v", c.name, before+c.b, len(before), n, next, err, c.want)
			}
		}
	}
}

// An offset outside of the bytes yields ErrArg in all three readers, whatever the bytes are; that of their end yields ErrEnd.
func TestOffsets(t *testing.T) {
	for _, b := range []string{"", "\x00", "\x02\x02", "\x80\x00", "\x80", "\x01"} {
		for _, at := range []int{math.MinInt, -2, -1, len(b) + 1, len(b) + 2, math.MaxInt} {
			if n, next, err := wire.Int([]byte(b), at); n != 0 || next != 0 || err != api.ErrArg {
				t.Errorf("Int(%x, %d) = %d, %d, %v, want ErrArg", b, at, n, next, err)
			}
			if s, next, err := wire.Text([]byte(b), at); len(s) != 0 || next != 0 || err != api.ErrArg {
				t.Errorf("Text(%x, %d) = %x, %d, %v, want ErrArg", b, at, s, next, err)
			}
			if l, next, err := wire.Ints([]byte(b), at); len(l) != 0 || next != 0 || err != api.ErrArg {
				t.Errorf("Ints(%x, %d) = %d, %d, %v, want ErrArg", b, at, l, next, err)
			}
		}
		at := len(b)
		if n, next, err := wire.Int([]byte(b), at); n != 0 || next != 0 || err != api.ErrEnd {
			t.Errorf("Int(%x, %d) = %d, %d, %v, want ErrEnd", b, at, n, next, err)
		}
		if s, next, err := wire.Text([]byte(b), at); s != nil || next != 0 || err != api.ErrEnd {
			t.Errorf("Text(%x, %d) = %x, %d, %v, want ErrEnd", b, at, s, next, err)
		}
		if l, next, err := wire.Ints([]byte(b), at); l != nil || next != 0 || err != api.ErrEnd {
			t.Errorf("Ints(%x, %d) = %d, %d, %v, want ErrEnd", b, at, l, next, err)
		}
	}
}

func TestIntReadsAtItsOffset(t *testing.T) {
	b := []byte("\x02\x80\x01\x03")
	for at, want := range []struct {
		n    int64
		next int
		err  api.Errno
	}{{1, 1, api.OK}, {64, 3, api.OK}, {-1, 3, api.OK}, {-2, 4, api.OK}, {0, 0, api.ErrEnd}, {0, 0, api.ErrArg}} {
		n, next, err := wire.Int(b, at)
		if n != want.n || next != want.next || err != want.err {
			t.Errorf("Int(%x, %d) = %d, %d, %v, want %v", b, at, n, next, err, want)
		}
	}
}

// filled is a text of a size, of which no two neighbours are equal.
func filled(size int) []byte {
	s := make([]byte, size)
	for i := range s {
		s[i] = byte(i*7 + i>>8)
	}
	return s
}

func TestPutText(t *testing.T) {
	for _, c := range []struct{ s, want string }{
		{"", "\x00"},
		{"a", "\x02a"},
		{"ab", "\x04ab"},
		{"\x00\xff\x80", "\x06\x00\xff\x80"},
		{strings.Repeat("x", 63), "\x7e" + strings.Repeat("x", 63)},
		{strings.Repeat("x", 64), "\x80\x01" + strings.Repeat("x", 64)},
	} {
		b, err := wire.PutText([]byte(c.s))
		if string(b) != c.want || err != api.OK {
			t.Errorf("PutText(%q) = %x, %v, want %x", c.s, b, err, c.want)
		}
	}
	if b, err := wire.PutText(nil); string(b) != "\x00" || err != api.OK {
		t.Errorf("PutText(nil) = %x, %v", b, err)
	}
}

func TestPutTextBound(t *testing.T) {
	for _, size := range []int{api.MaxText - 1, api.MaxText} {
		s := filled(size)
		want := append(reference(int64(size)), s...)
		if b, err := wire.PutText(s); !bytes.Equal(b, want) || err != api.OK {
			t.Errorf("PutText of %d bytes: %d bytes, %v", size, len(b), err)
		}
	}
	for _, size := range []int{api.MaxText + 1, 2 * api.MaxText, 1 << 20} {
		if b, err := wire.PutText(make([]byte, size)); b != nil || err != api.ErrTooMany {
			t.Errorf("PutText of %d bytes: %d bytes, %v, want ErrTooMany", size, len(b), err)
		}
	}
}

func TestText(t *testing.T) {
	b := []byte("\x04ab\x00\x02c")
	for at, want := range []struct {
		s    string
		next int
		err  api.Errno
	}{{"ab", 3, api.OK}, {"", 0, api.ErrTooMany}, {"", 0, api.ErrEnd}, {"", 4, api.OK}, {"c", 6, api.OK}, {"", 0, api.ErrTooMany}} {
		s, next, err := wire.Text(b, at)
		if string(s) != want.s || next != want.next || err != want.err {
			t.Errorf("Text(%x, %d) = %q, %d, %v, want %v", b, at, s, next, err, want)
		}
	}
	most := append(reference(api.MaxText), filled(api.MaxText)...)
	if s, next, err := wire.Text(most, 0); !bytes.Equal(s, filled(api.MaxText)) || next != len(most) || err != api.OK {
		t.Errorf("Text of MaxText bytes: %d, %d, %v", len(s), next, err)
	}
}

func TestTextErrors(t *testing.T) {
	cases := []struct {
		name, b string
		want    api.Errno
	}{
		{"length -1", "\x01", api.ErrTooMany},
		{"length -1, with bytes behind", "\x01abcd", api.ErrTooMany},
		{"the least length", string(reference(math.MinInt64)), api.ErrTooMany},
		{"the greatest length", string(reference(math.MaxInt64)), api.ErrTooMany},
		{"length 2^32 + 1", string(reference(1<<32+1)) + "abcd", api.ErrTooMany},
		{"a byte too many, and none follows", string(reference(api.MaxText + 1)), api.ErrTooMany},
		{"a byte too many, and all follow", string(reference(api.MaxText+1)) + strings.Repeat("x", api.MaxText+1), api.ErrTooMany},
		{"one byte, and none follows", "\x02", api.ErrEnd},
		{"two bytes, and one follows", "\x04a", api.ErrEnd},
		{"as many as may be, and none follows", string(reference(api.MaxText)), api.ErrEnd},
		{"as many as may be, and all but one follow", string(reference(api.MaxText)) + strings.Repeat("x", api.MaxText-1), api.ErrEnd},
	}
	for _, c := range append(cases, oddBytes...) {
		for _, before := range []string{"", "\x80", "\x02\x02"} {
			s, next, err := wire.Text([]byte(before+c.b), len(before))
			if s != nil || next != 0 || err != c.want {
				t.Errorf("%s: Text = %x, %d, %v, want %v", c.name, s, next, err, c.want)
			}
		}
	}
}

func TestPutInts(t *testing.T) {
	for _, c := range []struct {
		l    []int64
		want string
	}{
		{nil, "\x00"},
		{[]int64{}, "\x00"},
		{[]int64{0}, "\x02\x00"},
		{[]int64{5, -1}, "\x04\x0a\x01"},
		{[]int64{64, 0, math.MinInt64}, "\x06\x80\x01\x00\xff\xff\xff\xff\xff\xff\xff\xff\xff\x01"},
		{make([]int64, api.MaxList-1), "\x7e" + strings.Repeat("\x00", api.MaxList-1)},
		{make([]int64, api.MaxList), "\x80\x01" + strings.Repeat("\x00", api.MaxList)},
	} {
		b, err := wire.PutInts(c.l)
		if string(b) != c.want || err != api.OK {
			t.Errorf("PutInts(%d) = %x, %v, want %x", c.l, b, err, c.want)
		}
	}
	for _, size := range []int{api.MaxList + 1, 2 * api.MaxList, 1 << 16} {
		if b, err := wire.PutInts(make([]int64, size)); b != nil || err != api.ErrTooMany {
			t.Errorf("PutInts of %d integers: %d bytes, %v, want ErrTooMany", size, len(b), err)
		}
	}
}

func TestInts(t *testing.T) {
	b := []byte("\x04\x0a\x01\x00\x02\x80\x01")
	for at, want := range []struct {
		l    []int64
		next int
		err  api.Errno
	}{
		{[]int64{5, -1}, 3, api.OK},
		{nil, 0, api.ErrEnd}, // length 5, and four integers follow
		{nil, 0, api.ErrTooMany},
		{nil, 4, api.OK},
		{[]int64{64}, 7, api.OK},
		{nil, 0, api.ErrEnd},
		{nil, 0, api.ErrTooMany},
	} {
		l, next, err := wire.Ints(b, at)
		if !slices.Equal(l, want.l) || next != want.next || err != want.err {
			t.Errorf("Ints(%x, %d) = %d, %d, %v, want %v", b, at, l, next, err, want)
		}
	}
	most := append(reference(api.MaxList), bytes.Repeat(reference(math.MinInt64), api.MaxList)...)
	if l, next, err := wire.Ints(most, 0); len(l) != api.MaxList || l[0] != math.MinInt64 || l[api.MaxList-1] != math.MinInt64 || next != len(most) || err != api.OK {
		t.Errorf("Ints of MaxList integers: %d, %d, %v", l, next, err)
	}
}

func TestIntsErrors(t *testing.T) {
	cases := []struct {
		name, b string
		want    api.Errno
	}{
		{"length -1", "\x01", api.ErrTooMany},
		{"length -1, with integers behind", "\x01\x00\x00", api.ErrTooMany},
		{"the least length", string(reference(math.MinInt64)), api.ErrTooMany},
		{"the greatest length", string(reference(math.MaxInt64)), api.ErrTooMany},
		{"length 2^32 + 1", string(reference(1<<32+1)) + "\x00\x00", api.ErrTooMany},
		{"one too many, and none follows", string(reference(api.MaxList + 1)), api.ErrTooMany},
		{"one too many, and all follow", string(reference(api.MaxList+1)) + strings.Repeat("\x00", api.MaxList+1), api.ErrTooMany},
		{"one too many, and the first one is odd", string(reference(api.MaxList+1)) + "\x80\x00", api.ErrTooMany},
		{"one, and none follows", "\x02", api.ErrEnd},
		{"three, and two follow", "\x06\x02\x02", api.ErrEnd},
		{"as many as may be, and all but one follow", string(reference(api.MaxList)) + strings.Repeat("\x02", api.MaxList-1), api.ErrEnd},
		{"the second one has a last digit 0", "\x04\x02\x80\x00", api.ErrLong},
		{"the first one has a last digit 0, and none follows", "\x04\x80\x00", api.ErrLong},
		{"the last one ends too early", "\x04\x02\x80", api.ErrEnd},
		{"the first one has a tenth byte 2", "\x02" + strings.Repeat("\xff", 9) + "\x02", api.ErrLong},
		{"the last one of MaxList is odd", string(reference(api.MaxList)) + strings.Repeat("\x02", api.MaxList-1) + "\xff\x00", api.ErrLong},
	}
	for _, c := range append(cases, oddBytes...) {
		for _, before := range []string{"", "\x80", "\x02\x02"} {
			l, next, err := wire.Ints([]byte(before+c.b), len(before))
			if l != nil || next != 0 || err != c.want {
				t.Errorf("%s: Ints = %d, %d, %v, want %v", c.name, l, next, err, c.want)
			}
		}
	}
}

// spoil writes over all of a list's memory, its spare capacity too.
func spoil[T byte | int64](l []T) {
	for i := range l[:cap(l)] {
		l[:cap(l)][i] = 99
	}
}

// spare is a list with spare capacity that holds a mark.
func spare[T byte | int64](l ...T) []T {
	with := append(slices.Clone(l), 77, 77, 77)
	return with[:len(l)]
}

// Rule P3: what is passed is neither changed nor kept, and what is returned is new memory.
func TestMemory(t *testing.T) {
	text := spare[byte]('a', 'b')
	put, _ := wire.PutText(text)
	again, _ := wire.PutText(text)
	spoil(put)
	if string(text[:5]) != "ab\x4d\x4d\x4d" || string(again) != "\x04ab" {
		t.Errorf("PutText shares memory: %q, %x", text[:5], again)
	}
	list := spare[int64](5, -1)
	put, _ = wire.PutInts(list)
	again, _ = wire.PutInts(list)
	spoil(put)
	if !slices.Equal(list[:5], []int64{5, -1, 77, 77, 77}) || string(again) != "\x04\x0a\x01" {
		t.Errorf("PutInts shares memory: %d, %x", list[:5], again)
	}
	b := spare[byte](4, 10, 1)
	s, _, _ := wire.Text(b, 0)
	s2, _, _ := wire.Text(b, 0)
	l, _, _ := wire.Ints(b, 0)
	l2, _, _ := wire.Ints(b, 0)
	spoil(s)
	spoil(l)
	if string(b[:6]) != "\x04\x0a\x01\x4d\x4d\x4d" || string(s2) != "\x0a\x01" || !slices.Equal(l2, []int64{5, -1}) {
		t.Errorf("a reader shares memory: %x, %x, %d", b[:6], s2, l2)
	}
	spoil(b)
	if string(s2) != "\x0a\x01" || !slices.Equal(l2, []int64{5, -1}) {
		t.Errorf("what was read changes with what it was read from: %x, %d", s2, l2)
	}
	one := wire.PutInt(64)
	spoil(one)
	if string(wire.PutInt(64)) != "\x80\x01" {
		t.Error("PutInt shares memory between calls")
	}
}
