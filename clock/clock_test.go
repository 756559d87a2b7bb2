package clock_test

import (
	"fmt"
	"math"
	"math/rand"
	"slices"
	"testing"

	"locum/api"
	"locum/clock"
)

// Promise P8.1: K1 and K2, one by one.

func checkGain(t *testing.T, steps []api.Step, node int, want int64) {
	t.Helper()
	if got := clock.Gain(steps, node); got != want {
		t.Errorf("Gain(%v, %d) = %d, want %d", shown(steps), node, got, want)
	}
}

// K1, for nodes with no step, with one and with several.
func TestGain(t *testing.T) {
	steps := []api.Step{{Node: 3, N: 2}, {Node: 0, N: 5}, {Node: 3, N: 40}, {Node: 1, N: 100}, {Node: 3, N: 2}, {Node: 0, N: 1000}}
	for node, want := range map[int]int64{0: 1005, 1: 100, 2: 0, 3: 44, 4: 0, api.MaxNode: 0, math.MaxInt: 0, -1: 0, -3: 0, math.MinInt: 0} {
		checkGain(t, steps, node, want)
		checkGain(t, nil, node, 0)
		checkGain(t, []api.Step{}, node, 0)
	}
}

// Any node that is not negative has a clock.
func TestGainOfAnyNode(t *testing.T) {
	for _, node := range []int{0, 1, api.MaxNode - 1, api.MaxNode, api.MaxNode + 1, math.MaxInt32, math.MaxInt - 1, math.MaxInt} {
		steps := []api.Step{{Node: node, N: 3}, {Node: 7, N: 20}, {Node: node, N: 4}}
		checkGain(t, steps, node, 7)
		checkGain(t, steps, 7, 20)
		checkGain(t, steps, -node-1, 0)
	}
}

// What is ignored adds nothing, to whatever node.
func TestGainIgnored(t *testing.T) {
	steps := []api.Step{{Node: 0, N: 5}, {Node: 1, N: 7}, {Node: 0, N: 1}}
	for _, s := range ignored() {
		checkGain(t, []api.Step{s}, s.Node, 0)
		for i := range len(steps) + 1 {
			for node, want := range []int64{6, 7, 0} {
				checkGain(t, inserted(steps, i, s, s), node, want)
			}
			for _, node := range []int{-1, -2, math.MinInt32, math.MinInt, api.MaxNode} {
				checkGain(t, inserted(steps, i, s, s), node, 0)
			}
		}
	}
	for _, node := range []int{0, 1, -1, api.MaxNode} {
		checkGain(t, ignored(), node, 0)
	}
}

// The least and the greatest advance that count.
func TestGainBounds(t *testing.T) {
	steps := []api.Step{{Node: 0, N: 0}, {Node: 1, N: api.MaxTime}, {Node: 2, N: api.MaxTime - 1}, {Node: 1, N: 1}, {Node: 0, N: 0}, {Node: 1, N: api.MaxTime}}
	for node, want := range []int64{0, 2*api.MaxTime + 1, api.MaxTime - 1} {
		checkGain(t, steps, node, want)
	}
	checkGain(t, []api.Step{{Node: 0, N: 0}, {Node: 0, N: 4}}, 0, 4)
}

// Gain has no bound on how many steps there are, other than Drift.
func TestGainOfMany(t *testing.T) {
	for _, size := range []int{maxSteps, maxSteps + 1, 1 << 20} {
		checkGain(t, slices.Repeat([]api.Step{{Node: 4, N: api.MaxTime}}, size), 4, int64(size)*api.MaxTime)
	}
}

func TestGainOfAny(t *testing.T) {
	for seed := range int64(500) {
		r := rand.New(rand.NewSource(seed))
		steps := someSteps(r, r.Intn(60), 5, 4)
		for node := -3; node < 7; node++ {
			checkGain(t, steps, node, advanced(steps, node))
		}
	}
}

// The examples of the chapter.
func TestExamples(t *testing.T) {
	q := question{[]int{0}, 4, []int{1}, 2}
	q.check(t, "first", []api.Step{{Node: 0, N: 2}, {Node: 1, N: 2}, {Node: 0, N: 2}}, true)
	q.check(t, "second", []api.Step{{Node: 0, N: 4}, {Node: 1, N: 4}}, false)
}

// K2, for all lists of at most three of these steps, and many questions.
func TestDriftOfSmall(t *testing.T) {
	kinds := []api.Step{{Node: 0, N: 1}, {Node: 0, N: 2}, {Node: 1, N: 1}, {Node: 1, N: 2}, {Node: 2, N: 3}, {Node: 0, N: 0}, {Node: -1, N: 2}, {Node: 0, N: -2}, {Node: 1, N: api.MaxTime + 1}}
	nodes := [][]int{nil, {0}, {1}, {2, 1}, {1, 0, 1}, {0, 0}, {9, 0}, {-1}, {1, -1}}
	lists := [][]api.Step{nil}
	for at := 0; at < len(lists); at++ {
		steps := lists[at]
		if len(steps) < 3 {
			for _, s := range kinds {
				lists = append(lists, append(slices.Clip(steps), s))
			}
		}
		r := rand.New(rand.NewSource(int64(at)))
		for _, some := range nodes {
			for _, others := range nodes {
				for much := range int64(6) {
					q := question{some, much - 1, others, r.Int63n(7) - 1}
					q.check(t, "small", steps, q.answer(steps))
				}
			}
		}
	}
}

// K2, for longer lists, with bounds that are about what is gained.
func TestDriftOfAny(t *testing.T) {
	answers := map[bool]int{}
	for seed := range int64(30000) {
		r := rand.New(rand.NewSource(seed))
		nodes := 1 + r.Intn(4)
		steps := someSteps(r, r.Intn(15), nodes, 2+r.Intn(10))
		q := someQuestion(r, steps, nodes)
		want := q.answer(steps)
		q.check(t, fmt.Sprint("seed ", seed), steps, want)
		answers[want]++
	}
	if answers[true] < 5000 || answers[false] < 5000 {
		t.Errorf("the questions are too much alike: %v", answers)
	}
}

// K2, for two or three nodes that advance by turns, and bounds of all sizes.
func TestDriftOfTurns(t *testing.T) {
	turns := [][]api.Step{
		{{Node: 0, N: 1}, {Node: 1, N: 1}},
		{{Node: 0, N: 3}, {Node: 1, N: 2}},
		{{Node: 0, N: 2}, {Node: 1, N: 3}, {Node: 1, N: 1}, {Node: 0, N: 2}},
		{{Node: 1, N: 1}, {Node: 0, N: 2}, {Node: 2, N: 3}, {Node: -1, N: 4}},
		{{Node: 2, N: 1}, {Node: 0, N: 1}, {Node: 0, N: -1}, {Node: 1, N: 2}, {Node: 0, N: 1}},
	}
	for _, turn := range turns {
		steps := slices.Repeat(turn, 5)
		for much := range int64(20) {
			for least := range int64(20) {
				for _, q := range []question{{[]int{0}, much, []int{1}, least}, {[]int{1}, much, []int{0}, least}, {[]int{0, 2}, much, []int{1, 0}, least}, {[]int{0}, much, []int{0}, least}} {
					q.check(t, "turns", steps, q.answer(steps))
				}
			}
		}
	}
}

// Whoever gains exactly much must be followed, whoever gains one less need not; whoever gains exactly least follows.
func TestDriftAtBounds(t *testing.T) {
	steps := []api.Step{{Node: 0, N: 3}, {Node: 1, N: 5}, {Node: 0, N: 6}}
	for _, c := range []struct {
		much, least int64
		want        bool
	}{
		{9, 5, true}, {9, 6, false}, {10, 6, true}, {10, math.MaxInt64, true},
		{6, 0, true}, {6, 1, false}, {7, 5, true}, {7, 6, false}, {8, 5, true},
		{3, 0, true}, {3, 1, false}, {4, 1, false}, {0, 0, true}, {0, 1, false}, {1, 0, true},
	} {
		question{[]int{0}, c.much, []int{1}, c.least}.check(t, "bounds", steps, c.want)
	}
}

// With the same node in both, it gains least where it gains much, if least is not greater.
func TestDriftOfOneNode(t *testing.T) {
	steps := []api.Step{{Node: 0, N: 2}, {Node: 1, N: 1}, {Node: 0, N: 2}}
	for much := range int64(7) {
		for least := range int64(7) {
			want := least <= much || much > 4 || least <= 2 && much > 0 || least <= 4 && much > 2
			question{[]int{0}, much, []int{0}, least}.check(t, "the same node", steps, want)
		}
	}
}

// With no nodes in either, nothing is violated, whatever the bounds are.
func TestDriftOfNobody(t *testing.T) {
	for _, steps := range [][]api.Step{nil, {{Node: 0, N: 4}}, {{Node: 1, N: 4}, {Node: 0, N: 4}}, ignored()} {
		for _, much := range edges() {
			for _, least := range edges() {
				for _, nodes := range nodeLists() {
					question{nil, much, nodes, least}.check(t, "no nodes in some", steps, true)
					question{nodes, much, nil, least}.check(t, "no nodes in others", steps, true)
					question{[]int{}, much, nodes, least}.check(t, "no nodes in some", steps, true)
					question{nodes, much, []int{}, least}.check(t, "no nodes in others", steps, true)
				}
			}
		}
	}
}

// In the empty part, everybody gains 0: that is much if much is 0 or below, and not least if least is above.
func TestDriftOfEmptyPart(t *testing.T) {
	none := [][]api.Step{nil, {}, ignored(), {{Node: 5, N: 3}}, {{Node: 0, N: 3}, {Node: 1, N: 3}}, {{Node: 1, N: 3}}, {{Node: 1, N: api.MaxTime}}}
	for _, steps := range none {
		for _, much := range []int64{0, -1, -2, -api.MaxTime, math.MinInt64 + 1, math.MinInt64} {
			for _, nodes := range nodeLists() {
				if len(nodes) == 0 {
					continue
				}
				for _, least := range []int64{1, 2, 3, math.MaxInt64} {
					question{nodes, much, []int{1}, least}.check(t, "the empty part", steps, false)
					question{[]int{0}, much, nodes, least}.check(t, "the empty part", steps, false)
				}
				for _, least := range []int64{0, -1, much, math.MinInt64} {
					question{nodes, much, []int{1}, least}.check(t, "nothing is asked of the others", steps, true)
					question{[]int{0}, much, nodes, least}.check(t, "nothing is asked of the others", steps, true)
				}
			}
		}
	}
}

// Both bounds at the edges of their type, and where least is greater than much.
func TestDriftAtEdges(t *testing.T) {
	lists := [][]api.Step{
		nil,
		{{Node: 0, N: 1}},
		{{Node: 1, N: 1}, {Node: 0, N: 1}, {Node: 1, N: 2}},
		{{Node: 0, N: api.MaxTime}, {Node: 1, N: api.MaxTime}, {Node: 0, N: 1}},
		{{Node: 1, N: api.MaxTime}, {Node: 0, N: api.MaxTime}, {Node: 1, N: 1}, {Node: 0, N: api.MaxTime + 1}},
		slices.Repeat([]api.Step{{Node: 0, N: api.MaxTime}, {Node: 1, N: api.MaxTime}}, 5),
		ignored(),
	}
	for _, steps := range lists {
		for _, much := range edges() {
			for _, least := range edges() {
				for _, nodes := range [][]int{{0}, {1}, {0, 1}, {-1, 0}, {9}} {
					for _, q := range []question{{nodes, much, []int{1}, least}, {[]int{0}, much, nodes, least}} {
						q.check(t, "edges", steps, q.answer(steps))
					}
				}
			}
		}
	}
}

// The greatest gains: they are summed up without loss.
func TestDriftOfGreatGains(t *testing.T) {
	const sum = maxSteps * api.MaxTime
	steps := slices.Repeat([]api.Step{{Node: 0, N: api.MaxTime}}, maxSteps)
	for much, want := range map[int64]bool{sum: false, sum + 1: true, sum - 1: false, math.MaxInt64: true, 1: false} {
		question{[]int{0}, much, []int{1}, 1}.check(t, "great gains", steps, want)
	}
	for least, want := range map[int64]bool{sum: true, sum + 1: false, sum - 1: true, math.MaxInt64: false, 1: true} {
		question{[]int{0}, sum, []int{0}, least}.check(t, "great gains", steps, want)
	}
}

// Of too many steps the answer is false, whatever they are, and whatever is asked of them; of one less it is not.
func TestDriftOfTooMany(t *testing.T) {
	for _, s := range append(ignored(), api.Step{}, api.Step{Node: 1, N: 1}, api.Step{Node: 0, N: api.MaxTime}) {
		steps := slices.Repeat([]api.Step{s}, maxSteps+1)
		for _, q := range []question{
			{nil, 1, nil, 1}, {[]int{0}, 1, nil, 1}, {nil, 1, []int{0}, 1}, {nil, 0, nil, 0},
			{[]int{0}, math.MaxInt64, []int{1}, math.MinInt64}, {[]int{9}, 1, []int{9}, 0}, {[]int{9}, 1, []int{9}, 1}, {[]int{0}, 5, []int{0}, 5},
		} {
			q.check(t, "10000 steps", steps[:maxSteps], true)
			q.check(t, "10001 steps", steps, false)
		}
		question{[]int{0}, 0, []int{1}, 2}.check(t, "10000 steps", steps[:maxSteps], false)
	}
	for _, size := range []int{maxSteps + 2, 2 * maxSteps, 1 << 16, 1<<16 + 1, 1 << 20} {
		question{}.check(t, "many steps", make([]api.Step, size), false)
	}
}

// Of as many steps as it examines, it examines all: the only part that violates is anywhere among them.
func TestDriftOfMany(t *testing.T) {
	const pair = 2
	steps := slices.Repeat([]api.Step{{Node: 0, N: 1}, {Node: 1, N: 1}}, maxSteps/pair)
	q := question{[]int{0}, 3, []int{1}, 1}
	q.check(t, "10000 steps", steps, true)
	for _, i := range []int{0, 1, 4999, 5000, 9990, 9998, 9999} {
		changed := slices.Clone(steps)
		changed[i] = api.Step{Node: 0, N: 3}
		q.check(t, fmt.Sprintf("10000 steps, one of 3 as number %d", i), changed, false)
	}
	q = question{[]int{0}, maxSteps / pair, []int{1}, maxSteps/pair - 1}
	q.check(t, "10000 steps, as a whole", steps, true)
	q.least++
	q.check(t, "10000 steps, all but the last one", steps, false)
	q = question{[]int{1}, maxSteps / pair, []int{0}, maxSteps/pair - 1}
	q.check(t, "10000 steps, as a whole", steps, true)
	q.least++
	q.check(t, "10000 steps, all but the first one", steps, false)
}

// Many steps and long lists of nodes are no reason not to end soon.
func TestDriftOfLongLists(t *testing.T) {
	var nodes, steps = make([]int, 1<<18), make([]api.Step, maxSteps)
	for i := range nodes {
		nodes[i] = (i * 7) % 5000
	}
	for i := range steps {
		steps[i] = api.Step{Node: i % 5000, N: 1}
	}
	question{nodes, 2, nodes, 1}.check(t, "long lists", steps, true)
	question{nodes, 2, nodes, 2}.check(t, "long lists", steps, false)
	question{nodes, 3, nodes, 2}.check(t, "long lists", steps, true)
	question{slices.Repeat([]int{3}, 1<<18), 2, slices.Repeat([]int{4}, 1<<18), 1}.check(t, "long lists", steps, true)
	question{slices.Repeat([]int{4}, 1<<18), 1, slices.Repeat([]int{6}, 1<<18), 1}.check(t, "long lists", steps, false)
}

// P3: what was passed stays as it was, including its spare capacity, and a call has no part in the next one.
func TestPassed(t *testing.T) {
	steps := append(ignored(), api.Step{Node: 2, N: 3}, api.Step{Node: 0, N: 1}, api.Step{Node: 1, N: 1}, api.Step{Node: 7, N: 7}, api.Step{Node: 8, N: 8})
	some, others := []int{2, 0, 2, 1, 9, 5}, []int{3, 1, 2, 1, 0, 8}
	copied := [...]any{slices.Clone(steps), slices.Clone(some), slices.Clone(others)}
	size := len(steps) - 2
	for range 3 {
		for much := range int64(6) {
			for least := range int64(6) {
				q := question{some[:4], much, others[:4], least}
				q.check(t, "again", steps[:size], q.answer(steps[:size]))
			}
		}
		checkGain(t, steps[:size], 2, 3)
	}
	if fmt.Sprint(copied) != fmt.Sprint([...]any{steps, some, others}) {
		t.Errorf("%v was changed into %v", copied, [...]any{steps, some, others})
	}
}
