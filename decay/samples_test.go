package decay_test

import (
	"math"
	"math/big"
	"math/rand"
	"testing"

	"locum/api"
	"locum/decay"
)

const (
	maxPen  = api.MaxPen
	maxTime = api.MaxTime
	whole   = 65536 // of this penalty the table's number itself is left
)

// both are what a target's state can be.
var both = []bool{false, true}

// table has the numbers of the chapter.
var table = [16]int{65536, 62757, 60097, 57549, 55109, 52773, 50535, 48393, 46341, 44376, 42495, 40693, 38968, 37316, 35734, 34219}

// decayed is D1 by the document's words, computed in numbers of any size.
func decayed(pen int, dt, half int64) (int, api.Errno) {
	if pen < 0 || pen > maxPen || dt < 0 || dt > maxTime || half < 1 || half > maxTime {
		return 0, api.ErrArg
	}
	q, r := new(big.Int).DivMod(big.NewInt(dt), big.NewInt(half), new(big.Int))
	if q.Cmp(big.NewInt(20)) > 0 {
		return 0, api.OK
	}
	left := new(big.Int).Div(big.NewInt(int64(pen)), new(big.Int).Exp(big.NewInt(2), q, nil))
	index := new(big.Int).Div(new(big.Int).Mul(big.NewInt(16), r), big.NewInt(half))
	left.Mul(left, big.NewInt(int64(table[index.Int64()])))
	left.Div(left, big.NewInt(whole))
	return int(left.Int64()), api.OK
}

// hit is the first half of D2 by the document's words.
func hit(pen, more int) int {
	sum := new(big.Int)
	for _, n := range []int{pen, more} {
		if n > maxPen {
			n = maxPen
		}
		if n > 0 {
			sum.Add(sum, big.NewInt(int64(n)))
		}
	}
	if sum.Cmp(big.NewInt(maxPen)) > 0 {
		return maxPen
	}
	return int(sum.Int64())
}

// sup is the second half of D2 by the document's words.
func sup(was bool, pen, suppress, reuse int) bool {
	if pen >= suppress {
		return true
	}
	if pen <= reuse {
		return false
	}
	return was
}

func checkDecay(t *testing.T, pen int, dt, half int64, want int, err api.Errno) {
	t.Helper()
	if got, e := decay.Decay(pen, dt, half); got != want || e != err {
		t.Errorf("Decay(%d, %d, %d) = %d, %d, want %d, %d", pen, dt, half, got, int(e), want, int(err))
	}
}

// checkWords holds Decay against the document's words.
func checkWords(t *testing.T, pen int, dt, half int64) {
	t.Helper()
	want, err := decayed(pen, dt, half)
	checkDecay(t, pen, dt, half, want, err)
}

// left is Decay of what is a penalty, a time and a half-life.
func left(t *testing.T, pen int, dt, half int64) int {
	t.Helper()
	got, err := decay.Decay(pen, dt, half)
	if err != api.OK {
		t.Fatalf("Decay(%d, %d, %d) has the error %d", pen, dt, half, int(err))
	}
	return got
}

func checkHit(t *testing.T, pen, more, want int) {
	t.Helper()
	if got := decay.Hit(pen, more); got != want {
		t.Errorf("Hit(%d, %d) = %d, want %d", pen, more, got, want)
	}
}

func checkSup(t *testing.T, was bool, pen, suppress, reuse int, want bool) {
	t.Helper()
	if got := decay.Sup(was, pen, suppress, reuse); got != want {
		t.Errorf("Sup(%v, %d, %d, %d) = %v, want %v", was, pen, suppress, reuse, got, want)
	}
}

// pens are penalties: the least and the greatest one, about each power of 2, and others.
func pens() []int {
	l := []int{0, 1, 2, 3, 1000, 65535, 65537, 123456, 524287, 524289, 999998, 999999, maxPen}
	for n := 4; n <= maxPen; n *= 2 {
		l = append(l, n-1, n, n+1)
	}
	return l
}

// halves are half-lives: below, at and above how many parts they have, greater ones, and the greatest ones.
func halves() []int64 {
	return []int64{
		1, 2, 3, 7, 8, 9, 10, 15, 16, 17, 31, 32, 33, 100, 1000, 65535, 65536, 65537, 1 << 20, 1<<31 - 1, 1 << 32,
		maxTime/20 - 1, maxTime / 20, maxTime / 16, maxTime/16 + 1, maxTime/3 + 1, maxTime/2 - 1, maxTime / 2, maxTime/2 + 1,
		maxTime - 17, maxTime - 16, maxTime - 15, maxTime - 2, maxTime - 1, maxTime,
	}
}

// within are those of some times that Decay takes.
func within(times ...int64) []int64 {
	var l []int64
	for _, dt := range times {
		if dt >= 0 && dt <= maxTime {
			l = append(l, dt)
		}
	}
	return l
}

// firstOf is the first time of a half-life that leads to a number of the table, or to a later one where none leads to it: the least r with 16 r at least index times half.
func firstOf(index int, half int64) int64 {
	r := int64(index) * (half / 16)
	for 16*r < int64(index)*half {
		r++
	}
	return r
}

// turns are the times, in the first so many half-lives, at which Decay may return less than one tick earlier, and their neighbours.
func turns(half int64, many int64) []int64 {
	var l []int64
	for q := range many {
		if q > maxTime/half {
			break
		}
		for index := range table {
			first := q*half + firstOf(index, half)
			l = append(l, first-1, first, first+1)
		}
	}
	return within(append(l, maxTime-1, maxTime)...)
}

// someBelow is at least 0 and less than a bound, rather small than great.
func someBelow(r *rand.Rand, bound int64) int64 {
	return r.Int63n(r.Int63n(bound) + 1)
}

// somePen is a penalty, mostly a great one, so that something is left of it.
func somePen(r *rand.Rand) int {
	if r.Intn(4) == 0 {
		return r.Intn(100)
	}
	return r.Intn(maxPen + 1)
}

// someTimes are a time and a half-life of any magnitude, the time being mostly less than 22 half-lives.
func someTimes(r *rand.Rand) (dt, half int64) {
	half = 1 + r.Int63n(int64(1)<<r.Intn(41))
	if r.Intn(8) == 0 {
		return r.Int63n(maxTime + 1), half
	}
	return min(r.Int63n(22*half), maxTime), half
}

// edges are numbers about 0, about MaxPen, and at the edges of their type.
func edges() []int {
	return []int{
		math.MinInt, math.MinInt + 1, -2 * maxPen, -maxPen - 1, -maxPen, -maxPen + 1, math.MinInt32, -5, -3, -2, -1, 0, 1, 2, 3, 5,
		maxPen/2 - 1, maxPen / 2, maxPen/2 + 1, maxPen - 5, maxPen - 2, maxPen - 1, maxPen, maxPen + 1, maxPen + 2, 2*maxPen - 1, 2 * maxPen,
		math.MaxInt32, 1 << 32, math.MaxInt/2 + 1, math.MaxInt - maxPen, math.MaxInt - 1, math.MaxInt,
	}
}

// someNumber is one of the edges, or close to one of them, or small.
func someNumber(r *rand.Rand) int {
	switch l := edges(); r.Intn(3) {
	case 0:
		return r.Intn(12) - 3
	case 1:
		return l[r.Intn(len(l))]
	default:
		return l[r.Intn(len(l))] + r.Intn(5) - 2
	}
}
