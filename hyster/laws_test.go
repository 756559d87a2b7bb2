package hyster_test

import (
	"math"
	"math/rand"
	"slices"
	"testing"

	"locum/hyster"
)

// Promises P9.2 and P9.3.

// P9.2: all small lists, cut at each place.
func TestCuts(t *testing.T) {
	for _, l := range small(7) {
		for _, up := range both {
			for _, run := range []int{math.MinInt, -1, 0, 1, 2, 3, maxRun - 2, maxRun, math.MaxInt} {
				for _, bounds := range [][2]int{{1, 1}, {2, 3}, {3, 2}, {1, 4}, {4, 1}, {0, -1}, {maxRun, maxRun + 1}, {math.MaxInt, math.MinInt}} {
					h, rise, fall := state(up, run), bounds[0], bounds[1]
					whole := hyster.All(h, l, rise, fall)
					for at := range len(l) + 1 {
						checkAll(t, hyster.All(h, l[:at], rise, fall), l[at:], rise, fall, whole)
					}
				}
			}
		}
	}
}

// P9.2: longer lists, cut at each place.
func TestCutsOfAny(t *testing.T) {
	for seed := range int64(3000) {
		r := rand.New(rand.NewSource(seed))
		l := someAnswers(r, r.Intn(50), 1+r.Intn(6))
		h := state(r.Intn(2) == 0, someNumber(r))
		rise, fall := someNumber(r), someNumber(r)
		whole := hyster.All(h, l, rise, fall)
		for at := range len(l) + 1 {
			checkAll(t, hyster.All(h, l[:at], rise, fall), l[at:], rise, fall, whole)
		}
	}
}

// P9.2: two lists, of which one may be empty, and both concatenated.
func TestConcatenated(t *testing.T) {
	lists := small(4)
	for _, first := range lists {
		for _, second := range lists {
			for _, up := range both {
				for _, bounds := range [][2]int{{1, 2}, {2, 3}, {3, 1}, {2, 2}} {
					h, rise, fall := state(up, len(first)%3), bounds[0], bounds[1]
					want := hyster.All(hyster.All(h, first, rise, fall), second, rise, fall)
					checkAll(t, h, slices.Concat(first, second), rise, fall, want)
				}
			}
		}
	}
}

// rows are bounds that lists of answers reach.
func rows() []int { return []int{1, 2, 3, 4, 5, 6, 7, 8, 31, 32, 255, 256, 257, 1000} }

// P9.3: from Run 0 (or below, which counts as 0), rise or fall answers that contradict Up invert it; with fewer it stays, and Run is how many there were.
func TestRow(t *testing.T) {
	for _, own := range rows() {
		for _, up := range both {
			for _, run := range []int{0, -1, -own, math.MinInt} {
				for _, other := range []int{math.MinInt, 0, 1, own - 1, own, own + 1, math.MaxInt} {
					h := state(up, run)
					checkRow(t, h, row(!up, own), own, other, state(!up, 0))
					for _, fewer := range []int{own - 1, own - 2, own / 2, 1} {
						if fewer > 0 && fewer < own {
							checkRow(t, h, row(!up, fewer), own, other, state(up, fewer))
						}
					}
				}
			}
		}
	}
}

// P9.3: more answers in a row that say the same change nothing any more.
func TestLongerRow(t *testing.T) {
	for _, own := range rows() {
		for _, up := range both {
			for _, more := range []int{1, 2, own, 3 * own} {
				for _, other := range []int{math.MinInt, 0, 1, 2, math.MaxInt} {
					checkRow(t, state(up, 0), row(!up, own+more), own, other, state(!up, 0))
				}
			}
		}
	}
}

// P9.3: answers that say what Up says already leave it, however many they are.
func TestRowThatEquals(t *testing.T) {
	for _, up := range both {
		for _, size := range rows() {
			for _, bound := range []int{math.MinInt, 0, 1, size - 1, size, size + 1, math.MaxInt} {
				for _, run := range []int{math.MinInt, 0, 1, size, math.MaxInt} {
					checkAll(t, state(up, run), row(up, size), bound, bound, state(up, 0))
				}
			}
		}
	}
}

// P9.3: with a Run that answers ahead of them left over, rise or fall equal answers in a row still make it what they say.
func TestRowWithRunLeftOver(t *testing.T) {
	for _, own := range rows() {
		for _, up := range both {
			for _, run := range []int{1, 2, own / 2, own - 1, own, own + 1, maxRun - 1, maxRun, math.MaxInt} {
				for _, other := range []int{math.MinInt, 1, own, math.MaxInt} {
					checkRow(t, state(up, run), row(!up, own), own, other, state(!up, 0))
				}
			}
		}
	}
	for seed := range int64(3000) {
		r := rand.New(rand.NewSource(seed))
		rise, fall := 1+r.Intn(8), 1+r.Intn(8)
		left := hyster.All(state(r.Intn(2) == 0, 0), someAnswers(r, r.Intn(40), 1+r.Intn(6)), rise, fall)
		checkAll(t, left, row(true, rise), rise, fall, state(true, 0))
		checkAll(t, left, row(false, fall), rise, fall, state(false, 0))
	}
}

// P9.3: one answer that equals Up in between starts the count anew.
func TestRowInterrupted(t *testing.T) {
	for _, own := range rows() {
		for _, up := range both {
			for _, first := range []int{1, own / 2, own - 2, own - 1} {
				if first < 1 || first >= own {
					continue
				}
				begun := slices.Concat(row(!up, first), row(up, 1))
				checkRow(t, state(up, 0), begun, own, 1, state(up, 0))
				checkRow(t, state(up, 0), slices.Concat(begun, row(!up, own-1)), own, 1, state(up, own-1))
				checkRow(t, state(up, 0), slices.Concat(begun, row(!up, own)), own, math.MaxInt, state(!up, 0))
			}
		}
	}
}

// changes tells whether the last of some answers changes Up, by what P9.3 says alone: enough of them, up to the last one, are in a row and contradict Up.
func changes(up bool, l []bool, rise, fall int) bool {
	enough := rise
	if up {
		enough = fall
	}
	return len(l) >= enough && !slices.Contains(l[len(l)-enough:], up)
}

// P9.3: of any answers from Run 0 on, Up is always what the last row of enough of them said.
func TestUpOfAny(t *testing.T) {
	changed := 0
	for seed := range int64(5000) {
		r := rand.New(rand.NewSource(seed))
		rise, fall := 1+r.Intn(7), 1+r.Intn(7)
		l := someAnswers(r, 60, 1+r.Intn(6))
		h := state(r.Intn(2) == 0, 0)
		up := h.Up
		for i := range l {
			if changes(up, l[:i+1], rise, fall) {
				up = !up
				changed++
			}
			if got := hyster.All(h, l[:i+1], rise, fall); got.Up != up {
				t.Fatalf("seed %d: All(%v, %v, %d, %d) = %v, want Up %v", seed, h, l[:i+1], rise, fall, got, up)
			}
		}
	}
	if changed < 5000 {
		t.Errorf("only %d changes", changed)
	}
}
