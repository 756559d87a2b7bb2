package decay_test

import (
	"math"
	"math/rand"
	"slices"
	"testing"

	"locum/decay"
)

// Promises P12.2 and P12.3.

// checkNeverRises holds that of a penalty not more is left at a later one of some times.
func checkNeverRises(t *testing.T, pen int, half int64, times []int64) {
	t.Helper()
	slices.Sort(times)
	before := pen
	for i, dt := range times {
		n := left(t, pen, dt, half)
		if n > before {
			t.Fatalf("of %d with half %d: %d after %d, but %d after %d", pen, half, n, dt, before, times[max(i-1, 0)])
		}
		before = n
	}
}

// P12.2: after a longer time not more is left, tick by tick, for short half-lives.
func TestNeverRisesByTicks(t *testing.T) {
	for half := int64(1); half <= 70; half++ {
		times := make([]int64, 23*half)
		for dt := range times {
			times[dt] = int64(dt)
		}
		for _, pen := range pens() {
			checkNeverRises(t, pen, half, times)
		}
	}
}

// P12.2: after a longer time not more is left, from one number of the table to the next, and from one half-life to the next, for any.
func TestNeverRisesAtTurns(t *testing.T) {
	for _, half := range halves() {
		times := turns(half, 23)
		for _, pen := range pens() {
			checkNeverRises(t, pen, half, times)
		}
	}
}

// P12.2: from the last tick of a half-life to the first one of the next, for penalties that are rounded by then too.
func TestNeverRisesFromHalfToHalf(t *testing.T) {
	for _, half := range []int64{2, 15, 16, 17, 100, maxTime / 20} {
		for q := int64(1); q <= 20; q++ {
			for pen := 0; pen <= maxPen; pen += 1 + pen/300 {
				last, first := left(t, pen, q*half-1, half), left(t, pen, q*half, half)
				if first > last {
					t.Fatalf("of %d with half %d: %d after %d, but %d a tick earlier", pen, half, first, q*half, last)
				}
			}
		}
	}
}

// P12.2: after a longer time not more is left, for any times.
func TestNeverRisesForAny(t *testing.T) {
	for seed := range int64(2000) {
		r := rand.New(rand.NewSource(seed))
		_, half := someTimes(r)
		times := within(0, half-1, half, half+1, maxTime)
		for range 60 {
			times = append(times, min(someBelow(r, 22*half), maxTime))
		}
		checkNeverRises(t, somePen(r), half, times)
	}
}

// checkNeverFalls holds that of a greater one of some penalties not less is left.
func checkNeverFalls(t *testing.T, dt, half int64, pens []int) {
	t.Helper()
	slices.Sort(pens)
	before := 0
	for i, pen := range pens {
		n := left(t, pen, dt, half)
		if n < before {
			t.Fatalf("after %d with half %d: %d of %d, but %d of %d", dt, half, n, pen, before, pens[max(i-1, 0)])
		}
		before = n
	}
}

// P12.2: of a greater penalty not less is left, penalty by penalty.
func TestNeverFallsByOne(t *testing.T) {
	all := make([]int, maxPen+1)
	for pen := range all {
		all[pen] = pen
	}
	for _, dt := range []int64{1, 8, 15, 17, 16*19 - 1, 16 * 19} {
		checkNeverFalls(t, dt, 16, all)
	}
	for _, dt := range turns(16, 20) {
		checkNeverFalls(t, dt, 16, all[:300])
		checkNeverFalls(t, dt, 16, all[maxPen-300:])
	}
}

// P12.2: of a greater penalty not less is left, at all times about which Decay returns less, and at any.
func TestNeverFallsForAny(t *testing.T) {
	for _, half := range halves() {
		for _, dt := range turns(half, 22) {
			checkNeverFalls(t, dt, half, pens())
		}
	}
	for seed := range int64(2000) {
		r := rand.New(rand.NewSource(seed))
		dt, half := someTimes(r)
		l := []int{0, 1, maxPen - 1, maxPen}
		for range 60 {
			pen := somePen(r)
			l = append(l, pen, min(pen+1, maxPen))
		}
		checkNeverFalls(t, dt, half, l)
	}
}

// P12.2: not more is left than there was, and not less than nothing.
func TestNeverMore(t *testing.T) {
	r := rand.New(rand.NewSource(18))
	for range 100000 {
		pen := somePen(r)
		dt, half := someTimes(r)
		if n := left(t, pen, dt, half); n < 0 || n > pen {
			t.Fatalf("of %d after %d with half %d: %d", pen, dt, half, n)
		}
	}
}

// P12.2: after no time all of it is left.
func TestNoTime(t *testing.T) {
	for pen := range maxPen + 1 {
		if n := left(t, pen, 0, 10); n != pen {
			t.Fatalf("of %d after no time: %d", pen, n)
		}
	}
	r := rand.New(rand.NewSource(15))
	for range 20000 {
		_, half := someTimes(r)
		for _, pen := range append(pens(), somePen(r)) {
			if n := left(t, pen, 0, half); n != pen {
				t.Fatalf("of %d after no time with half %d: %d", pen, half, n)
			}
		}
	}
}

// P12.2: after one half-life one half is left, rounded down.
func TestOneHalfLife(t *testing.T) {
	for _, half := range []int64{1, 10, maxTime} {
		for pen := range maxPen + 1 {
			if n := left(t, pen, half, half); n != pen/2 {
				t.Fatalf("of %d after one half-life of %d: %d", pen, half, n)
			}
		}
	}
	l := pens()
	for half := range int64(3000) {
		for _, pen := range l {
			if n := left(t, pen, half+1, half+1); n != pen/2 {
				t.Fatalf("of %d after one half-life of %d: %d", pen, half+1, n)
			}
		}
	}
	r := rand.New(rand.NewSource(16))
	for range 20000 {
		_, half := someTimes(r)
		for _, half := range append(halves(), half) {
			if pen := somePen(r); left(t, pen, half, half) != pen/2 {
				t.Fatalf("of %d after one half-life of %d: %d", pen, half, left(t, pen, half, half))
			}
		}
	}
}

// P12.2: what is left lies between what the half-lives that are over leave, and what one more leaves.
func TestHalfLives(t *testing.T) {
	for _, half := range halves() {
		for _, dt := range turns(half, 21) {
			for _, pen := range pens() {
				n, halved := left(t, pen, dt, half), pen>>(dt/half)
				if n > halved || n < halved/2 {
					t.Fatalf("of %d after %d with half %d: %d", pen, dt, half, n)
				}
			}
		}
	}
}

// P12.3: for each pen between reuse and suppress the state stays.
func TestBetween(t *testing.T) {
	for suppress := 1; suppress <= 60; suppress++ {
		for reuse := range suppress {
			for pen := reuse + 1; pen < suppress; pen++ {
				for _, was := range both {
					checkSup(t, was, pen, suppress, reuse, was)
				}
			}
		}
	}
	for _, l := range []struct{ suppress, reuse int }{{maxPen, 0}, {maxPen, maxPen / 2}, {3000, 1000}} {
		for pen := l.reuse + 1; pen < l.suppress; pen++ {
			for _, was := range both {
				checkSup(t, was, pen, l.suppress, l.reuse, was)
			}
		}
	}
}

// P12.3: so it does for bounds that are no penalties, up to the edges of the type.
func TestBetweenAny(t *testing.T) {
	between := 0
	r := rand.New(rand.NewSource(17))
	for range 200000 {
		pen, suppress, reuse := someNumber(r), someNumber(r), someNumber(r)
		if pen <= reuse || pen >= suppress {
			continue
		}
		between++
		for _, was := range both {
			checkSup(t, was, pen, suppress, reuse, was)
		}
	}
	if between < 10000 {
		t.Errorf("only %d were between", between)
	}
	for _, pen := range []int{math.MinInt + 1, -1, 0, 1, maxPen, math.MaxInt - 1} {
		for _, was := range both {
			checkSup(t, was, pen, math.MaxInt, math.MinInt, was)
			checkSup(t, was, pen, pen+1, pen-1, was)
		}
	}
}

// P12.3: who is hit again and again, and decays, changes its state at suppress and at reuse alone.
func TestStateOfAny(t *testing.T) {
	changes := 0
	for seed := range int64(500) {
		r := rand.New(rand.NewSource(seed))
		half := 1 + r.Int63n(40)
		suppress := 100 + r.Intn(2000)
		reuse := r.Intn(suppress)
		pen, was := 0, false
		for range 200 {
			pen = left(t, pen, r.Int63n(20), half)
			if r.Intn(3) == 0 {
				pen = decay.Hit(pen, r.Intn(1000))
			}
			is := decay.Sup(was, pen, suppress, reuse)
			switch {
			case is && !was && pen < suppress, !is && was && pen > reuse:
				t.Fatalf("seed %d: from %v to %v at %d, with suppress %d and reuse %d", seed, was, is, pen, suppress, reuse)
			case is != was:
				changes++
			}
			was = is
		}
	}
	if changes < 2000 {
		t.Errorf("only %d changes", changes)
	}
}
