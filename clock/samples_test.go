package clock_test

import (
	"fmt"
	"math"
	"math/rand"
	"slices"
	"testing"

	"locum/api"
	"locum/clock"
)

// maxSteps is how many steps Drift examines.
const maxSteps = 10000

// question is what Drift is asked of some steps.
type question struct {
	some   []int
	much   int64
	others []int
	least  int64
}

// ignored are steps that advance no clock.
func ignored() []api.Step {
	return []api.Step{
		{Node: -1, N: 1}, {Node: -1, N: api.MaxTime}, {Node: -2, N: 7}, {Node: math.MinInt, N: 7}, {Node: math.MinInt32, N: 7},
		{Node: -1, N: -1}, {Node: -1, N: 0}, {Node: -1, N: api.MaxTime + 1},
		{Node: 0, N: -1}, {Node: 0, N: -2}, {Node: 0, N: -api.MaxTime}, {Node: 0, N: math.MinInt64}, {Node: 0, N: math.MinInt64 + 1},
		{Node: 0, N: api.MaxTime + 1}, {Node: 0, N: api.MaxTime + 2}, {Node: 0, N: math.MaxInt64},
		{Node: 1, N: -1}, {Node: 1, N: api.MaxTime + 1}, {Node: api.MaxNode, N: -1}, {Node: api.MaxNode, N: api.MaxTime + 1},
	}
}

// advanced is the gain of a node, by the document's words.
func advanced(steps []api.Step, node int) int64 {
	var sum int64
	for _, s := range steps {
		if s.Node < 0 || s.N < 0 || s.N > api.MaxTime || s.Node != node {
			continue
		}
		sum += s.N
	}
	return sum
}

// parts are all contiguous parts of steps, among them the empty one.
func parts(steps []api.Step) [][]api.Step {
	l := [][]api.Step{nil}
	for from := range steps {
		for to := from + 1; to <= len(steps); to++ {
			l = append(l, steps[from:to])
		}
	}
	return l
}

// holds is the condition of K2 for one part, by the document's words.
func (q question) holds(part []api.Step) bool {
	for _, node := range q.some {
		if advanced(part, node) < q.much {
			continue
		}
		for _, other := range q.others {
			if advanced(part, other) < q.least {
				return false
			}
		}
	}
	return true
}

// answer is what Drift must answer of at most maxSteps steps.
func (q question) answer(steps []api.Step) bool {
	for _, part := range parts(steps) {
		if !q.holds(part) {
			return false
		}
	}
	return true
}

// ask asks Drift.
func (q question) ask(steps []api.Step) bool {
	return clock.Drift(steps, q.some, q.much, q.others, q.least)
}

func (q question) check(t *testing.T, name string, steps []api.Step, want bool) {
	t.Helper()
	if got := q.ask(steps); got != want {
		t.Errorf("%s: Drift(%v, %v, %d, %v, %d) = %v", name, shown(steps), shown(q.some), q.much, shown(q.others), q.least, got)
	}
}

// shown is what a test tells of a list that may be long.
func shown[T any](l []T) string {
	if len(l) > 100 {
		return fmt.Sprintf("%d of them", len(l))
	}
	return fmt.Sprint(l)
}

// nodeLists are lists of nodes to ask about: none, one, several, one of them twice, ones that no step is of, and negative ones.
func nodeLists() [][]int {
	return [][]int{
		nil, {}, {0}, {1}, {2}, {0, 1}, {1, 0}, {2, 0, 1}, {0, 0}, {1, 1, 0}, {0, 1, 0}, {9}, {9, 0}, {1, 9},
		{-1}, {-1, 0}, {1, -1}, {-1, -1}, {math.MinInt}, {math.MaxInt, 1},
	}
}

// edges are bounds that are 0 or below, or at the edges of their type.
func edges() []int64 {
	return []int64{
		math.MinInt64, math.MinInt64 + 1, math.MinInt32, -api.MaxTime, -2, -1, 0,
		1, api.MaxTime, api.MaxTime + 1, math.MaxInt32, math.MaxInt64 - 1, math.MaxInt64,
	}
}

// someSteps are random steps of at most so many nodes; one in so many is ignored.
func someSteps(r *rand.Rand, size, nodes, seldom int) []api.Step {
	steps := make([]api.Step, size)
	for i := range steps {
		steps[i] = api.Step{Node: r.Intn(nodes), N: r.Int63n(4)}
		if r.Intn(seldom) == 0 {
			l := ignored()
			steps[i] = l[r.Intn(len(l))]
		}
	}
	return steps
}

// someNodes are at most three random nodes; few of them are without a step.
func someNodes(r *rand.Rand, nodes int) []int {
	var l []int
	for range r.Intn(4) {
		l = append(l, r.Intn(nodes+1)-r.Intn(2)*r.Intn(2))
	}
	return l
}

// someBound is about what a node gains in a random part of the steps.
func someBound(r *rand.Rand, steps []api.Step, nodes int) int64 {
	from := r.Intn(len(steps) + 1)
	to := from + r.Intn(len(steps)-from+1)
	return advanced(steps[from:to], r.Intn(nodes)) + int64(r.Intn(3)) - 1
}

func someQuestion(r *rand.Rand, steps []api.Step, nodes int) question {
	return question{someNodes(r, nodes), someBound(r, steps, nodes), someNodes(r, nodes), someBound(r, steps, nodes)}
}

// inserted are the steps with others put in ahead of step i.
func inserted(steps []api.Step, i int, others ...api.Step) []api.Step {
	return slices.Concat(steps[:i], others, steps[i:])
}
