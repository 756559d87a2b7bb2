package hyster_test

import (
	"math"
	"math/rand"
	"slices"
	"testing"

	"locum/api"
	"locum/hyster"
)

// Promise P9.1: H1 and H2, one by one.

// H1: an answer that equals Up gives Run 0, whatever Run and the bounds are.
func TestNextThatEquals(t *testing.T) {
	for _, up := range both {
		for _, run := range edges() {
			for _, rise := range edges() {
				for _, fall := range edges() {
					checkNext(t, state(up, run), up, rise, fall, state(up, 0))
				}
			}
		}
	}
}

// H1: another one increases Run by one, from 0 or below as from 0.
func TestNextThatContradicts(t *testing.T) {
	for _, c := range []struct{ run, want int }{
		{0, 1}, {1, 2}, {2, 3}, {7, 8}, {255, 256}, {65535, 65536},
		{-1, 1}, {-2, 1}, {-7, 1}, {-maxRun, 1}, {math.MinInt + 1, 1}, {math.MinInt, 1},
		{maxRun - 3, maxRun - 2}, {maxRun - 2, maxRun - 1}, {maxRun - 1, maxRun},
		{maxRun, maxRun}, {maxRun + 1, maxRun}, {2*maxRun - 1, maxRun}, {2 * maxRun, maxRun}, {math.MaxInt - 1, maxRun}, {math.MaxInt, maxRun},
	} {
		for _, up := range both {
			for _, own := range []int{c.want + 1, c.want + 2, maxRun + 1, math.MaxInt} {
				checkAsked(t, up, c.run, own, 1, state(up, c.want))
			}
		}
	}
}

// H1: a Run that is then exactly the bound, or more, inverts Up and gives Run 0; one less does not.
func TestNextAtBound(t *testing.T) {
	for _, own := range []int{1, 2, 3, 4, 10, 255, 256, 65536, maxRun - 1, maxRun} {
		for _, up := range both {
			for _, run := range []int{own - 1, own, own + 1, own + 100, 2*maxRun - 1, math.MaxInt - 1, math.MaxInt} {
				checkAsked(t, up, run, own, math.MaxInt, state(!up, 0))
			}
			for less := 2; less <= 4 && less <= own; less++ {
				checkAsked(t, up, own-less, own, 1, state(up, own-less+1))
			}
		}
	}
}

// H1: with a bound of 1, 0 or below, each answer that contradicts inverts Up.
func TestNextOfLeastBounds(t *testing.T) {
	for _, own := range []int{1, 0, -1, -2, -maxRun, math.MinInt + 1, math.MinInt} {
		for _, up := range both {
			for _, run := range edges() {
				checkAsked(t, up, run, own, math.MaxInt, state(!up, 0))
			}
		}
	}
	for _, up := range both {
		for _, run := range []int{0, -1, math.MinInt} {
			checkAsked(t, up, run, 2, math.MinInt, state(up, 1))
		}
	}
}

// H1: Run never reaches a bound above 2^31.
func TestNextOfGreatestBounds(t *testing.T) {
	for _, own := range []int{maxRun + 1, maxRun + 2, 2 * maxRun, math.MaxInt - 1, math.MaxInt} {
		for _, up := range both {
			for _, run := range []int{maxRun - 1, maxRun, maxRun + 1, own - 1, own, math.MaxInt} {
				checkAsked(t, up, run, own, math.MinInt, state(up, maxRun))
			}
		}
	}
}

// H1: rise is asked of what is down alone, fall of what is up alone.
func TestNextAsksOneBound(t *testing.T) {
	for _, up := range both {
		for _, run := range edges() {
			for _, own := range edges() {
				want := asked(up, run, own, own)
				for _, other := range edges() {
					checkAsked(t, up, run, own, other, want)
				}
			}
		}
	}
	checkNext(t, state(false, 3), true, 4, 9, state(true, 0))
	checkNext(t, state(false, 3), true, 9, 4, state(false, 4))
	checkNext(t, state(true, 3), false, 4, 9, state(true, 4))
	checkNext(t, state(true, 3), false, 9, 4, state(false, 0))
}

// H1, for all edges together.
func TestNextOfEdges(t *testing.T) {
	for _, up := range both {
		for _, good := range both {
			for _, run := range edges() {
				for _, rise := range edges() {
					for _, fall := range edges() {
						h := state(up, run)
						checkNext(t, h, good, rise, fall, next(h, good, rise, fall))
					}
				}
			}
		}
	}
}

// H1, for all small numbers, and for any.
func TestNextOfAny(t *testing.T) {
	for _, up := range both {
		for _, good := range both {
			for run := -2; run < 9; run++ {
				for rise := -2; rise < 9; rise++ {
					for fall := -2; fall < 9; fall++ {
						h := state(up, run)
						checkNext(t, h, good, rise, fall, next(h, good, rise, fall))
					}
				}
			}
		}
	}
	r := rand.New(rand.NewSource(9))
	for range 200000 {
		h := state(r.Intn(2) == 0, someNumber(r))
		good, rise, fall := r.Intn(2) == 0, someNumber(r), someNumber(r)
		checkNext(t, h, good, rise, fall, next(h, good, rise, fall))
	}
}

// The examples of the chapter.
func TestExamples(t *testing.T) {
	checkAll(t, state(false, 0), []bool{true, true}, 2, 3, state(true, 0))
	checkAll(t, state(true, 0), []bool{false, false, true, false}, 2, 3, state(true, 1))
}

// H2: no answers give back what was handed in, as it was.
func TestAllOfNone(t *testing.T) {
	for _, up := range both {
		for _, run := range edges() {
			for _, bound := range edges() {
				for _, l := range [][]bool{nil, {}, make([]bool, 0, 4), []bool{true, false}[1:1]} {
					checkAll(t, state(up, run), l, bound, bound, state(up, run))
				}
			}
		}
	}
}

// H2: one answer is Next.
func TestAllOfOne(t *testing.T) {
	for _, up := range both {
		for _, good := range both {
			for _, run := range edges() {
				for _, rise := range edges() {
					for _, fall := range []int{math.MinInt, 0, 1, 3, maxRun, math.MaxInt} {
						h := state(up, run)
						checkAll(t, h, []bool{good}, rise, fall, hyster.Next(h, good, rise, fall))
					}
				}
			}
		}
	}
}

// H2: several answers are Next of each, in order.
func TestAllOfSeveral(t *testing.T) {
	for _, l := range small(8) {
		for _, up := range both {
			for _, run := range []int{-1, 0, 1, 2} {
				for rise := range 5 {
					for fall := range 5 {
						h := state(up, run)
						want := h
						for _, good := range l {
							want = hyster.Next(want, good, rise, fall)
						}
						checkAll(t, h, l, rise, fall, want)
						checkAll(t, h, l, rise, fall, all(h, l, rise, fall))
					}
				}
			}
		}
	}
}

func TestAllOfAny(t *testing.T) {
	for seed := range int64(20000) {
		r := rand.New(rand.NewSource(seed))
		l := someAnswers(r, r.Intn(60), 1+r.Intn(6))
		h := state(r.Intn(2) == 0, someNumber(r))
		rise, fall := someNumber(r), someNumber(r)
		checkAll(t, h, l, rise, fall, all(h, l, rise, fall))
	}
}

// The order of answers matters.
func TestAllInOrder(t *testing.T) {
	checkAll(t, state(false, 0), []bool{true, true, false}, 2, 3, state(true, 1))
	checkAll(t, state(false, 0), []bool{true, false, true}, 2, 3, state(false, 1))
	checkAll(t, state(false, 0), []bool{false, true, true}, 2, 3, state(true, 0))
	checkAll(t, state(true, 0), []bool{false, true, true}, 2, 1, state(true, 0))
	checkAll(t, state(true, 0), []bool{true, true, false}, 2, 1, state(false, 0))
}

// H2, for more answers than a small integer counts.
func TestAllOfMany(t *testing.T) {
	const size = 1 << 20
	for _, up := range both {
		checkRow(t, state(up, 0), row(!up, size), size, 1, state(!up, 0))
		checkRow(t, state(up, 0), row(!up, size), size+1, 1, state(up, size))
		checkRow(t, state(up, maxRun-size), row(!up, size), maxRun, 1, state(!up, 0))
		checkRow(t, state(up, maxRun-size), row(!up, size-1), maxRun, 1, state(up, maxRun-1))
		checkRow(t, state(up, maxRun-size/2), row(!up, size), maxRun+1, 1, state(up, maxRun))
		checkAll(t, state(up, 5), row(up, size), 1, 1, state(up, 0))
	}
}

// What was passed stays as it was, with its spare capacity, and the same call has the same result.
func TestAllChangesNothing(t *testing.T) {
	for seed := range int64(500) {
		r := rand.New(rand.NewSource(seed))
		whole := someAnswers(r, 20, 3)
		before := slices.Clone(whole)
		from := r.Intn(20)
		l := whole[from : from+r.Intn(20-from)]
		h := state(r.Intn(2) == 0, r.Intn(4))
		rise, fall := r.Intn(4), r.Intn(4)
		first := hyster.All(h, l, rise, fall)
		hyster.All(api.Hyster{Up: true, Run: 2}, before, 3, 1)
		checkAll(t, h, l, rise, fall, first)
		if !slices.Equal(whole, before) {
			t.Errorf("seed %d: All changed %v into %v", seed, before, whole)
		}
	}
}
