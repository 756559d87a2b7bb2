package hyster_test

import (
	"fmt"
	"math"
	"math/rand"
	"slices"
	"testing"

	"locum/api"
	"locum/hyster"
)

// maxRun is the greatest Run that Next counts up to.
const maxRun = 1 << 31

// both are what an answer can be, and what Up can be.
var both = []bool{false, true}

func state(up bool, run int) api.Hyster { return api.Hyster{Up: up, Run: run} }

// next is H1 by the document's words, with a Run that has room for one more.
func next(h api.Hyster, good bool, rise, fall int) api.Hyster {
	if good == h.Up {
		h.Run = 0
		return h
	}
	run := uint64(0)
	if h.Run > 0 {
		run = uint64(h.Run)
	}
	run++
	if run > maxRun {
		run = maxRun
	}
	h.Run = int(run)
	if !h.Up && h.Run >= rise {
		return api.Hyster{Up: true}
	}
	if h.Up && h.Run >= fall {
		return api.Hyster{}
	}
	return h
}

// all is H2 by the document's words, the last answer being applied to what the others lead to.
func all(h api.Hyster, l []bool, rise, fall int) api.Hyster {
	if len(l) == 0 {
		return h
	}
	last := len(l) - 1
	return next(all(h, l[:last], rise, fall), l[last], rise, fall)
}

func checkNext(t *testing.T, h api.Hyster, good bool, rise, fall int, want api.Hyster) {
	t.Helper()
	if got := hyster.Next(h, good, rise, fall); got != want {
		t.Errorf("Next(%v, %v, %d, %d) = %v, want %v", h, good, rise, fall, got, want)
	}
}

func checkAll(t *testing.T, h api.Hyster, l []bool, rise, fall int, want api.Hyster) {
	t.Helper()
	if got := hyster.All(h, l, rise, fall); got != want {
		t.Errorf("All(%v, %s, %d, %d) = %v, want %v", h, shown(l), rise, fall, got, want)
	}
}

// asked asks Next for a state that is up or down, with an answer that contradicts it: own is the bound that is asked of it, other the one that is not.
func asked(up bool, run, own, other int) api.Hyster {
	if up {
		return hyster.Next(state(true, run), false, other, own)
	}
	return hyster.Next(state(false, run), true, own, other)
}

func checkAsked(t *testing.T, up bool, run, own, other int, want api.Hyster) {
	t.Helper()
	if got := asked(up, run, own, other); got != want {
		t.Errorf("Up %v, Run %d, with an answer that contradicts it: %v, want %v (the bound that is asked of it is %d, the other one %d)", up, run, got, want, own, other)
	}
}

// checkRow is about consecutive answers, all of which contradict a state.
func checkRow(t *testing.T, h api.Hyster, l []bool, own, other int, want api.Hyster) {
	t.Helper()
	if h.Up {
		checkAll(t, h, l, other, own, want)
	} else {
		checkAll(t, h, l, own, other, want)
	}
}

// row is so many equal answers.
func row(good bool, size int) []bool { return slices.Repeat([]bool{good}, size) }

// shown is what a test tells of a list that may be long.
func shown(l []bool) string {
	if len(l) > 100 {
		return fmt.Sprintf("%d answers", len(l))
	}
	return fmt.Sprint(l)
}

// edges are numbers about 0, about the greatest Run, and at the edges of their type.
func edges() []int {
	return []int{
		math.MinInt, math.MinInt + 1, -maxRun - 1, -maxRun, -maxRun + 1, math.MinInt8, -2, -1, 0, 1, 2, 3, 4, 7, 255, 256, 65536,
		maxRun - 2, maxRun - 1, maxRun, maxRun + 1, 2*maxRun - 1, 2 * maxRun, 2*maxRun + 1, math.MaxInt - 1, math.MaxInt,
	}
}

// small are all lists of at most so many answers.
func small(size int) [][]bool {
	lists := [][]bool{nil}
	for at := 0; at < len(lists); at++ {
		if l := lists[at]; len(l) < size {
			lists = append(lists, append(slices.Clip(l), false), append(slices.Clip(l), true))
		}
	}
	return lists
}

// someAnswers are random answers, each of which differs from the one ahead of it once in so many times.
func someAnswers(r *rand.Rand, size, seldom int) []bool {
	l := make([]bool, size)
	good := r.Intn(2) == 0
	for i := range l {
		if r.Intn(seldom) == 0 {
			good = !good
		}
		l[i] = good
	}
	return l
}

// someNumber is one of the edges, or close to one of them, or small.
func someNumber(r *rand.Rand) int {
	switch l := edges(); r.Intn(3) {
	case 0:
		return r.Intn(12) - 3
	case 1:
		return l[r.Intn(len(l))]
	default:
		return l[r.Intn(len(l))] + r.Intn(5) - 2
	}
}
