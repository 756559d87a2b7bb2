package decay_test

import (
	"math"
	"math/big"
	"math/rand"
	"testing"

	"locum/api"
	"locum/decay"
)

// Promise P12.1: D1 and D2, one by one.

// The examples of the chapter.
func TestExamples(t *testing.T) {
	checkDecay(t, 1000, 10, 10, 500, api.OK)
	checkDecay(t, 1000, 5, 10, 707, api.OK)
	checkSup(t, true, 5, 10, 3, true)
	checkSup(t, false, 5, 10, 3, false)
}

// D1: each argument at its bounds and beyond, the others being right.
func TestDecayBounds(t *testing.T) {
	for _, pen := range []int{math.MinInt, math.MinInt + 1, -maxPen, -2, -1, maxPen + 1, maxPen + 2, 2 * maxPen, 1 << 32, 1 << 40, math.MaxInt - 1, math.MaxInt} {
		checkDecay(t, pen, 0, 10, 0, api.ErrArg)
		checkDecay(t, pen, maxTime, 1, 0, api.ErrArg)
	}
	for _, dt := range []int64{math.MinInt64, math.MinInt64 + 1, -maxTime, -2, -1, maxTime + 1, maxTime + 2, 2 * maxTime, math.MaxInt64 - 1, math.MaxInt64} {
		checkDecay(t, 1000, dt, 10, 0, api.ErrArg)
		checkDecay(t, maxPen, dt, maxTime, 0, api.ErrArg)
	}
	for _, half := range []int64{math.MinInt64, math.MinInt64 + 1, -maxTime, -2, -1, 0, maxTime + 1, maxTime + 2, 2 * maxTime, math.MaxInt64 - 1, math.MaxInt64} {
		checkDecay(t, 1000, 5, half, 0, api.ErrArg)
		checkDecay(t, 0, 0, half, 0, api.ErrArg)
	}
	checkDecay(t, 0, 0, 1, 0, api.OK)
	checkDecay(t, 1, 0, 1, 1, api.OK)
	checkDecay(t, maxPen, 0, 1, maxPen, api.OK)
	checkDecay(t, maxPen-1, 0, maxTime, maxPen-1, api.OK)
	checkDecay(t, maxPen, 1, 1, maxPen/2, api.OK)
	checkDecay(t, maxPen, maxTime, 1, 0, api.OK)
	checkDecay(t, maxPen, maxTime, maxTime, maxPen/2, api.OK)
	checkDecay(t, maxPen, maxTime-1, maxTime, 522140, api.OK)
	checkDecay(t, maxPen, maxTime, maxTime-1, maxPen/2, api.OK)
}

// D1: all bounds together, so that several arguments are wrong at once too.
func TestDecayOfEdges(t *testing.T) {
	times := []int64{
		math.MinInt64, math.MinInt64 + 1, -maxTime, math.MinInt32, -2, -1, 0, 1, 2, 15, 16, 17, 20, 21, 65536, 1 << 32, maxTime / 2,
		maxTime - 1, maxTime, maxTime + 1, maxTime + 2, 1 << 60, 1<<62 + 1, math.MaxInt64 - 1, math.MaxInt64,
	}
	for _, pen := range edges() {
		for _, dt := range times {
			for _, half := range times {
				checkWords(t, pen, dt, half)
			}
		}
	}
}

// The chapter's numbers are what it says of them: 65536 times 2 to the power -k/16, rounded. (The tests hold Decay against these.)
func TestTableIsRounded(t *testing.T) {
	power := func(n, e int64) *big.Int { return new(big.Int).Exp(big.NewInt(n), big.NewInt(e), nil) }
	for k, n := range table {
		// Twice the number without rounding, to the power of 16.
		exact := power(2, 17*16-int64(k))
		if power(int64(2*n-1), 16).Cmp(exact) > 0 || power(int64(2*n+1), 16).Cmp(exact) <= 0 {
			t.Errorf("number %d is %d", k, n)
		}
	}
}

// D1: each number of the table at the first and at the last r that leads to it, and beside them.
func TestTable(t *testing.T) {
	for _, half := range halves() {
		found := 0
		for index, number := range table {
			first, next := firstOf(index, half), firstOf(index+1, half)
			if first == next {
				continue // with few ticks a half-life no r leads to it
			}
			found++
			for _, r := range []int64{first, first + 1, (first + next) / 2, next - 2, next - 1} {
				if r >= first && r < next {
					checkDecay(t, whole, r, half, number, api.OK)
				}
			}
			if first > 0 && left(t, whole, first-1, half) <= number {
				t.Errorf("half %d: number %d is found at %d already", half, index, first-1)
			}
			if left(t, whole, min(next, maxTime), half) >= number {
				t.Errorf("half %d: number %d is found at %d still", half, index, next)
			}
		}
		if want := min(half, 16); int64(found) != want {
			t.Errorf("half %d: %d numbers, want %d", half, found, want)
		}
	}
}

// D1, with each r written out: half-lives of few ticks leave numbers of the table out.
func TestTableOfFewTicks(t *testing.T) {
	for _, l := range []struct {
		half int64
		want []int
	}{
		{1, []int{0}},
		{2, []int{0, 8}},
		{3, []int{0, 5, 10}},
		{15, []int{0, 1, 2, 3, 4, 5, 6, 7, 8, 9, 10, 11, 12, 13, 14}},
		{16, []int{0, 1, 2, 3, 4, 5, 6, 7, 8, 9, 10, 11, 12, 13, 14, 15}},
		{17, []int{0, 0, 1, 2, 3, 4, 5, 6, 7, 8, 9, 10, 11, 12, 13, 14, 15}},
		{32, []int{0, 0, 1, 1, 2, 2, 3, 3, 4, 4, 5, 5, 6, 6, 7, 7, 8, 8, 9, 9, 10, 10, 11, 11, 12, 12, 13, 13, 14, 14, 15, 15}},
	} {
		for r, index := range l.want {
			checkDecay(t, whole, int64(r), l.half, table[index], api.OK)
			checkDecay(t, 2*whole, l.half+int64(r), l.half, table[index], api.OK)
			checkDecay(t, 8*whole, 3*l.half+int64(r), l.half, table[index], api.OK)
		}
	}
}

// D1: so many half-lives halve so many times: after 19 of them 1 is left of a penalty of 2^19 or more, and after 20 nothing of any.
func TestHalvings(t *testing.T) {
	for _, half := range halves() {
		for q := range int64(25) {
			if q > maxTime/half {
				break
			}
			for _, pen := range pens() {
				checkDecay(t, pen, q*half, half, pen>>q, api.OK)
			}
		}
	}
	checkDecay(t, maxPen, 19, 1, 1, api.OK)
	checkDecay(t, 1<<19, 19, 1, 1, api.OK)
	checkDecay(t, 1<<19-1, 19, 1, 0, api.OK)
	checkDecay(t, 1<<18, 18, 1, 1, api.OK)
	checkDecay(t, 1<<19, 19*16, 16, 1, api.OK)
	checkDecay(t, 1<<19, 19*16+1, 16, 0, api.OK)
	checkDecay(t, maxPen, 20, 1, 0, api.OK)
	checkDecay(t, maxPen, 21, 1, 0, api.OK)
	checkDecay(t, maxPen, 22, 1, 0, api.OK)
}

// D1: after many half-lives nothing is left, also where a count of them in few bits starts anew.
func TestManyHalvings(t *testing.T) {
	for _, q := range []int64{20, 21, 22, 31, 32, 33, 62, 63, 64, 65, 127, 128, 255, 256, 257, 65535, 65536, 65537, 1 << 31, 1 << 32, 1<<32 + 1, maxTime - 1, maxTime} {
		for _, half := range halves() {
			if q > maxTime/half {
				continue
			}
			for _, pen := range []int{0, 1, 2, whole, 1 << 19, maxPen - 1, maxPen} {
				for _, r := range []int64{0, 1, half / 2, half - 1} {
					if r < half && q*half+r <= maxTime {
						checkDecay(t, pen, q*half+r, half, 0, api.OK)
					}
				}
			}
		}
	}
}

// D1: the penalty is halved and rounded down ahead of the table's number, by which the product is rounded down once more.
func TestRoundedDown(t *testing.T) {
	for _, l := range []struct {
		pen      int
		dt, half int64
		want     int
	}{
		{1, 1, 16, 0},               // 0.96
		{2, 1, 16, 1},               // 1.92
		{3, 17, 16, 0},              // 1, and 0.96; 1.44 if only the end were rounded down
		{7, 33, 16, 0},              // 1, and 0.96; 1.68
		{3, 16, 16, 1},              // 1.5
		{5, 24, 16, 1},              // 2, and 1.41; 1.77
		{11, 24, 16, 3},             // 5, and 3.54; 3.89
		{13, 24, 16, 4},             // 6, and 4.24; 4.60
		{15, 24, 16, 4},             // 7, and 4.95; 5.30
		{1000, 25, 10, 176},         // 250, and 176.8
		{1000, 24, 10, 192},         // 250, and 192.8
		{999, 5, 10, 706},           // 706.4
		{999, 15, 10, 352},          // 499, and 352.8; 353.2
		{65535, 15, 16, 34218},      // one less than the number
		{65537, 15, 16, 34219},      // a half more
		{maxPen, 1, 16, 957595},     // 957595.8
		{maxPen, 15, 16, 522140},    // 522140.5
		{maxPen, 8, 16, 707107},     // 707107.5
		{maxPen, 31, 16, 261070},    // 500000, and 261070.3
		{maxPen, 100, 16, 13139},    // 15625, and 13139.0
		{maxPen, 307, 16, 0},        // 1, and 0.88; 1.67
		{maxPen, 289, 16, 2},        // 3, and 2.87; 3.65
		{maxPen, 300, 16, 1},        // 3, and 1.78; 2.27
		{maxPen - 1, 8, 16, 707106}, // 707106.8
	} {
		checkDecay(t, l.pen, l.dt, l.half, l.want, api.OK)
		checkWords(t, l.pen, l.dt, l.half)
	}
}

// D1, at all times about which Decay returns less, and beside them.
func TestDecayAtTurns(t *testing.T) {
	for _, half := range halves() {
		for _, dt := range turns(half, 23) {
			for _, pen := range []int{0, 1, 2, 3, 7, 1000, whole - 1, whole, whole + 1, 1<<19 - 1, 1 << 19, maxPen - 1, maxPen} {
				checkWords(t, pen, dt, half)
			}
		}
	}
}

// D1, for all small numbers.
func TestDecayOfSmall(t *testing.T) {
	for pen := -1; pen < 20; pen++ {
		for dt := int64(-1); dt < 100; dt++ {
			for half := int64(-1); half < 20; half++ {
				checkWords(t, pen, dt, half)
			}
		}
	}
}

// D1, for any numbers.
func TestDecayOfAny(t *testing.T) {
	r := rand.New(rand.NewSource(12))
	something := 0
	for range 300000 {
		pen := somePen(r)
		dt, half := someTimes(r)
		checkWords(t, pen, dt, half)
		if n, _ := decayed(pen, dt, half); n > 0 {
			something++
		}
	}
	if something < 100000 {
		t.Errorf("of only %d penalties something was left", something)
	}
}

// D2: sums below, at and above MaxPen.
func TestHitSums(t *testing.T) {
	for _, l := range []struct{ pen, more, want int }{
		{0, 0, 0}, {0, 1, 1}, {1, 0, 1}, {3, 5, 8}, {1000, 500, 1500},
		{maxPen - 1, 0, maxPen - 1}, {maxPen - 2, 1, maxPen - 1}, {maxPen/2 - 1, maxPen / 2, maxPen - 1},
		{maxPen, 0, maxPen}, {0, maxPen, maxPen}, {maxPen - 1, 1, maxPen}, {1, maxPen - 1, maxPen}, {maxPen / 2, maxPen / 2, maxPen},
		{maxPen, 1, maxPen}, {1, maxPen, maxPen}, {maxPen - 1, 2, maxPen}, {maxPen/2 + 1, maxPen / 2, maxPen}, {maxPen, maxPen, maxPen},
		{maxPen - 1, 5, maxPen}, {999999, 5, 1000000},
	} {
		checkHit(t, l.pen, l.more, l.want)
	}
	for _, pen := range pens() {
		checkHit(t, pen, 0, pen)
		checkHit(t, 0, pen, pen)
		checkHit(t, pen, maxPen-pen, maxPen)
		checkHit(t, pen, maxPen-pen+1, maxPen)
		if pen < maxPen {
			checkHit(t, pen, maxPen-pen-1, maxPen-1)
			checkHit(t, pen, 1, pen+1)
		}
	}
}

// D2: an argument that is negative counts as 0, and one greater than MaxPen as MaxPen, up to the edges of the type.
func TestHitBounds(t *testing.T) {
	for _, low := range []int{math.MinInt, math.MinInt + 1, math.MinInt32, -2 * maxPen, -maxPen, -3, -1} {
		for _, pen := range pens() {
			checkHit(t, low, pen, pen)
			checkHit(t, pen, low, pen)
		}
		checkHit(t, low, low, 0)
		for _, high := range []int{maxPen + 1, maxPen + 5, 2 * maxPen, math.MaxInt32, math.MaxInt - 1, math.MaxInt} {
			checkHit(t, low, high, maxPen)
			checkHit(t, high, low, maxPen)
			checkHit(t, high, high, maxPen)
			checkHit(t, high, 0, maxPen)
			checkHit(t, 0, high, maxPen)
			checkHit(t, high, maxPen, maxPen)
		}
	}
}

// D2, for all edges together, and for any numbers.
func TestHitOfAny(t *testing.T) {
	for _, pen := range edges() {
		for _, more := range edges() {
			checkHit(t, pen, more, hit(pen, more))
		}
	}
	r := rand.New(rand.NewSource(13))
	for range 100000 {
		pen, more := someNumber(r), someNumber(r)
		if r.Intn(2) == 0 {
			pen, more = r.Intn(maxPen+1), r.Intn(maxPen+1)
		}
		checkHit(t, pen, more, hit(pen, more))
	}
}

// D2: pen below, at and above suppress and reuse, for both states.
func TestSupBounds(t *testing.T) {
	for _, l := range []struct{ suppress, reuse int }{{10, 3}, {3, 0}, {maxPen, 0}, {maxPen, maxPen - 2}, {500000, 2}, {math.MaxInt, math.MinInt}} {
		for _, was := range both {
			checkSup(t, was, l.suppress-1, l.suppress, l.reuse, was)
			checkSup(t, was, l.suppress, l.suppress, l.reuse, true)
			checkSup(t, was, l.reuse, l.suppress, l.reuse, false)
			checkSup(t, was, l.reuse+1, l.suppress, l.reuse, was)
			if l.suppress < math.MaxInt {
				checkSup(t, was, l.suppress+1, l.suppress, l.reuse, true)
				checkSup(t, was, math.MaxInt, l.suppress, l.reuse, true)
			}
			if l.reuse > math.MinInt {
				checkSup(t, was, l.reuse-1, l.suppress, l.reuse, false)
				checkSup(t, was, math.MinInt, l.suppress, l.reuse, false)
			}
		}
	}
}

// D2: where nothing is between them, the state does not matter.
func TestSupWithoutBetween(t *testing.T) {
	for _, was := range both {
		for _, suppress := range []int{1, 2, 10, maxPen} {
			checkSup(t, was, suppress-1, suppress, suppress-1, false)
			checkSup(t, was, suppress, suppress, suppress-1, true)
		}
	}
}

// D2: where reuse is not less than suppress, suppress is asked first.
func TestSupAsksSuppressFirst(t *testing.T) {
	for _, was := range both {
		for _, bound := range []int{math.MinInt, -1, 0, 1, 10, maxPen, math.MaxInt} {
			checkSup(t, was, bound, bound, bound, true)
		}
		for pen := 10; pen <= 20; pen++ {
			checkSup(t, was, pen, 10, 20, true)
		}
		checkSup(t, was, 9, 10, 20, false)
		checkSup(t, was, 9, 10, 10, false)
		checkSup(t, was, 11, 10, 10, true)
		checkSup(t, was, 21, 10, 20, true)
		checkSup(t, was, math.MinInt, math.MinInt, math.MaxInt, true)
		checkSup(t, was, math.MaxInt, math.MinInt, math.MaxInt, true)
	}
}

// D2, for all edges together, all small numbers, and any.
func TestSupOfAny(t *testing.T) {
	check := func(pen, suppress, reuse int) {
		for _, was := range both {
			checkSup(t, was, pen, suppress, reuse, sup(was, pen, suppress, reuse))
		}
	}
	for _, pen := range edges() {
		for _, suppress := range edges() {
			for _, reuse := range edges() {
				check(pen, suppress, reuse)
			}
		}
	}
	for pen := -3; pen < 12; pen++ {
		for suppress := -3; suppress < 12; suppress++ {
			for reuse := -3; reuse < 12; reuse++ {
				check(pen, suppress, reuse)
			}
		}
	}
	r := rand.New(rand.NewSource(14))
	for range 100000 {
		check(someNumber(r), someNumber(r), someNumber(r))
	}
}

// Nothing is kept: the same call has the same result after others, among them such as have an error.
func TestKeepsNothing(t *testing.T) {
	for range 3 {
		checkDecay(t, 1000, 5, 10, 707, api.OK)
		checkHit(t, 3, 5, 8)
		checkSup(t, true, 5, 10, 3, true)
		decay.Decay(-1, 5, 10)
		decay.Decay(maxPen, maxTime, 1)
		decay.Hit(maxPen, maxPen)
		decay.Sup(false, 3, 10, 3)
	}
}
