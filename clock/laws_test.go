package clock_test

import (
	"fmt"
	"math"
	"math/rand"
	"slices"
	"testing"

	"locum/api"
	"locum/clock"
)

// Promises P8.2 and P8.3.

// P8.2: what is true of steps is true of each contiguous part of them.
func TestPartsOfTrue(t *testing.T) {
	asked := 0
	for seed := range int64(2000) {
		r := rand.New(rand.NewSource(seed))
		nodes := 2 + r.Intn(3)
		steps := someSteps(r, r.Intn(25), nodes, 8)
		q := someQuestion(r, steps, nodes)
		if !q.ask(steps) {
			continue
		}
		for _, part := range parts(steps) {
			q.check(t, fmt.Sprintf("seed %d, part of %v", seed, steps), part, true)
			asked++
		}
	}
	if asked < 10000 {
		t.Errorf("only %d parts were asked of", asked)
	}
}

// P8.2 the other way round: what is false of a part is false of the whole.
func TestWholeOfFalse(t *testing.T) {
	for seed := range int64(2000) {
		r := rand.New(rand.NewSource(seed))
		nodes := 2 + r.Intn(3)
		part := someSteps(r, 1+r.Intn(9), nodes, 8)
		q := someQuestion(r, part, nodes)
		if q.ask(part) {
			continue
		}
		for range 9 {
			whole := slices.Concat(someSteps(r, r.Intn(30), nodes, 8), part, someSteps(r, r.Intn(30), nodes, 8))
			q.check(t, fmt.Sprintf("seed %d, with %v in it", seed, part), whole, false)
		}
	}
}

// P8.2: as many steps as Drift examines, and parts of them.
func TestPartsOfMany(t *testing.T) {
	steps := slices.Repeat([]api.Step{{Node: 0, N: 2}, {Node: 1, N: 2}, {Node: 2, N: 1}, {Node: -1, N: 9}}, maxSteps/4)
	q := question{[]int{0, 1}, 8, []int{1, 2}, 3}
	q.check(t, "10000 steps", steps, true)
	for _, size := range []int{maxSteps, maxSteps - 1, maxSteps / 2, 9, 8, 7, 1, 0} {
		for _, from := range []int{0, 1, 2, 3, 4999, maxSteps - size} {
			if from+size <= maxSteps {
				q.check(t, fmt.Sprintf("%d steps from %d on", size, from), steps[from:from+size], true)
			}
		}
	}
}

// negatives are steps of negative nodes.
func negatives() []api.Step {
	var l []api.Step
	for _, node := range []int{-1, -2, -256, math.MinInt32, math.MinInt} {
		for _, n := range []int64{math.MinInt64, -1, 0, 1, 2, 3, api.MaxTime, api.MaxTime + 1, math.MaxInt64} {
			l = append(l, api.Step{Node: node, N: n})
		}
	}
	return l
}

// P8.2: steps of a negative node, put in anywhere, change nothing, even if that node is asked about.
func TestNegativeChangesNothing(t *testing.T) {
	for seed := range int64(600) {
		r := rand.New(rand.NewSource(seed))
		nodes := 1 + r.Intn(3)
		steps := someSteps(r, r.Intn(9), nodes, 8)
		q := someQuestion(r, steps, nodes)
		want := q.ask(steps)
		for _, s := range negatives() {
			for i := range len(steps) + 1 {
				more, name := inserted(steps, i, s), fmt.Sprintf("seed %d, with %v", seed, s)
				q.check(t, name, more, want)
				for node := -2; node < nodes+1; node++ {
					checkGain(t, more, node, clock.Gain(steps, node))
				}
				checkGain(t, more, s.Node, 0)
			}
		}
	}
}

// P8.2: many of them, and ones that are asked about.
func TestNegativesChangeNothing(t *testing.T) {
	for seed := range int64(3000) {
		r := rand.New(rand.NewSource(seed))
		steps := someSteps(r, r.Intn(12), 2, 8)
		q := someQuestion(r, steps, 2)
		l := negatives()
		if r.Intn(2) == 0 {
			q.some = append(q.some, l[r.Intn(len(l))].Node)
		}
		if r.Intn(2) == 0 {
			q.others = append(q.others, l[r.Intn(len(l))].Node)
		}
		want, more := q.ask(steps), steps
		for range 1 + r.Intn(20) {
			more = inserted(more, r.Intn(len(more)+1), l[r.Intn(len(l))])
		}
		q.check(t, fmt.Sprintf("seed %d, %v with more", seed, steps), more, want)
		checkGain(t, more, 0, clock.Gain(steps, 0))
		checkGain(t, more, 1, clock.Gain(steps, 1))
	}
}

// round has each of so many clocks advance by the same amount, in any order, in one step or in several.
func round(r *rand.Rand, clocks int, amount int64) []api.Step {
	var steps []api.Step
	for node := range clocks {
		left := amount
		for r.Intn(3) == 0 {
			n := r.Int63n(left + 1)
			steps, left = append(steps, api.Step{Node: node, N: n}), left-n
		}
		steps = append(steps, api.Step{Node: node, N: left})
	}
	r.Shuffle(len(steps), func(i, k int) { steps[i], steps[k] = steps[k], steps[i] })
	return steps
}

// rounds are so many of them, and the greatest amount.
func rounds(r *rand.Rand, size, clocks int, most int64) ([]api.Step, int64) {
	var steps []api.Step
	var greatest int64
	for range size {
		amount := r.Int63n(most + 1)
		steps, greatest = append(steps, round(r, clocks, amount)...), max(greatest, amount)
	}
	return steps, greatest
}

// P8.3, from any least on, up to more than what is gained in all.
func TestRounds(t *testing.T) {
	for seed := range int64(2000) {
		r := rand.New(rand.NewSource(seed))
		clocks, most := 1+r.Intn(5), 1+r.Int63n(9)
		if r.Intn(4) == 0 {
			most = api.MaxTime
		}
		steps, greatest := rounds(r, r.Intn(12), clocks, most)
		all := clock.Gain(steps, 0)
		some, others := r.Perm(clocks)[r.Intn(clocks):], r.Perm(clocks)[r.Intn(clocks):]
		for _, least := range []int64{0, 1, 2, -1, -greatest, -3 * greatest, greatest - 1, greatest, greatest + 1, all / 2, all - 2*greatest, all - 2*greatest + 1, all, all + 1, r.Int63n(all + 1)} {
			for _, more := range []int64{0, 1, greatest, all} {
				question{some, least + 2*greatest + more, others, least}.check(t, fmt.Sprint("seed ", seed), steps, true)
			}
		}
	}
}

// P8.3, for as many rounds as Drift examines.
func TestManyRounds(t *testing.T) {
	r := rand.New(rand.NewSource(1))
	var steps []api.Step
	for range maxSteps / 4 {
		amount := 1 + r.Int63n(3)
		for _, node := range r.Perm(4) {
			steps = append(steps, api.Step{Node: node, N: amount})
		}
	}
	for _, least := range []int64{0, 1, 5, 100, 1000, 2500, 5000} {
		question{[]int{0, 1, 2, 3}, least + 6, []int{3, 2, 1, 0}, least}.check(t, "many rounds", steps, true)
	}
}

// Two rounds are needed: with one less than that, there are rounds of which Drift is false.
func TestRoundsLess(t *testing.T) {
	const amount = 5
	for between := range 6 {
		steps := []api.Step{{Node: 1, N: amount}, {Node: 0, N: amount}}
		for range between {
			steps = append(steps, api.Step{Node: 1, N: amount}, api.Step{Node: 0, N: amount})
		}
		steps = append(steps, api.Step{Node: 0, N: amount}, api.Step{Node: 1, N: amount})
		least := int64(between*amount + 1)
		question{[]int{0}, least + 2*amount, []int{1}, least}.check(t, "two rounds", steps, true)
		question{[]int{0}, least + 2*amount - 1, []int{1}, least}.check(t, "less than two rounds", steps, false)
	}
}
