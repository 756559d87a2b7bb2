package policy_test

import (
	"math"
	"math/rand"
	"reflect"
	"slices"
	"testing"

	"locum/api"
	"locum/plan"
	"locum/policy"
)

// Promise P13.1: Right, Zero, and which calls Next refuses, one by one.

func checkRight(t *testing.T, c api.Config, want bool) {
	t.Helper()
	if got := policy.Right(c); got != want {
		t.Errorf("Right(%+v) = %v", c, got)
	}
}

// Each field of a config but Tiers and Reuse is among those that are tested one by one.
func TestFieldsAreAll(t *testing.T) {
	names := []string{"Tiers", "Reuse"}
	for _, f := range fields {
		names = append(names, f.name)
	}
	slices.Sort(names)
	var want []string
	for _, f := range reflect.VisibleFields(reflect.TypeFor[api.Config]()) {
		want = append(want, f.Name)
	}
	slices.Sort(want)
	if !slices.Equal(names, want) {
		t.Errorf("%v, want %v", names, want)
	}
}

// G1: each field at its bounds, about them, and between, all others being right.
func TestRight(t *testing.T) {
	for _, c := range bases() {
		checkRight(t, c, true)
		for _, f := range fields {
			for _, n := range f.good() {
				checkRight(t, f.set(c, n), true)
			}
			for _, n := range f.bad() {
				checkRight(t, f.set(c, n), false)
			}
		}
	}
	checkRight(t, api.Config{}, false)
}

// G1: the bounds of some fields as numbers, without the table.
func TestRightByNumbers(t *testing.T) {
	for _, l := range []struct {
		change func(c *api.Config)
		want   bool
	}{
		{func(c *api.Config) { c.F = 0 }, true},
		{func(c *api.Config) { c.F = 3 }, true},
		{func(c *api.Config) { c.F = 4 }, false},
		{func(c *api.Config) { c.M = 0 }, true},
		{func(c *api.Config) { c.M = -1 }, false},
		{func(c *api.Config) { c.M = math.MinInt64 }, false},
		{func(c *api.Config) { c.M = 1048576 }, true},
		{func(c *api.Config) { c.M = 1048577 }, false},
		{func(c *api.Config) { c.L = 0 }, false},
		{func(c *api.Config) { c.L = 1048576 }, true},
		{func(c *api.Config) { c.L = 1048577 }, false},
		{func(c *api.Config) { c.B = 8 }, true},
		{func(c *api.Config) { c.B = 9 }, false},
		{func(c *api.Config) { c.Hit = 0 }, true},
		{func(c *api.Config) { c.Hit = 1000000 }, true},
		{func(c *api.Config) { c.Hit = 1000001 }, false},
		{func(c *api.Config) { c.First = 100 }, true},
		{func(c *api.Config) { c.First = 0 }, false},
		{func(c *api.Config) { c.Cap = 1000 }, true},
		{func(c *api.Config) { c.Cap = 1001 }, false},
		{func(c *api.Config) { c.Room = 64 }, true},
		{func(c *api.Config) { c.Room = 65 }, false},
		{func(c *api.Config) { c.Tries = 20 }, true},
		{func(c *api.Config) { c.Tries = 21 }, false},
		{func(c *api.Config) { c.Observers = 7 }, true},
		{func(c *api.Config) { c.Observers = 8 }, false},
		{func(c *api.Config) { c.Tiers = []int{0, 15, 7} }, true},
		{func(c *api.Config) { c.Tiers = []int{0, 16, 7} }, false},
	} {
		c := usual()
		l.change(&c)
		checkRight(t, c, l.want)
	}
}

// G1: Tiers has Targets numbers, for each number of targets.
func TestRightTiers(t *testing.T) {
	for size := range 40 {
		for targets := -1; targets < 40; targets++ {
			c := withTiers(usual(), make([]int, size)...)
			c.Targets = targets
			checkRight(t, c, size == targets && size >= 1 && size <= 16)
		}
	}
	for _, c := range bases() {
		for at := range c.Tiers {
			for tier := range 16 {
				right := c
				right.Tiers = slices.Clone(c.Tiers)
				right.Tiers[at] = tier
				checkRight(t, right, true)
			}
		}
		for _, wrong := range spoiltTiers(c) {
			checkRight(t, wrong, false)
		}
	}
}

// G1: what stands behind the end of Tiers is none of them.
func TestRightBehindTiers(t *testing.T) {
	for _, behind := range []int{-1, 0, 15, 16, math.MaxInt} {
		tiers := []int{3, 0, 15, behind, behind}
		checkRight(t, withTiers(usual(), tiers[:3]...), true)
		c := withTiers(usual(), tiers[:3]...)
		c.Targets = 4
		checkRight(t, c, false)
	}
}

// G1: Reuse is at most Suppress less one, for any Suppress.
func TestRightReuse(t *testing.T) {
	for _, suppress := range []int{1, 2, 3, 10, 700, 1500, maxPen - 1, maxPen} {
		for _, l := range []struct {
			reuse int
			want  bool
		}{
			{math.MinInt, false}, {-suppress, false}, {-1, false},
			{0, true}, {suppress / 2, true}, {max(suppress-2, 0), true}, {suppress - 1, true},
			{suppress, false}, {suppress + 1, false}, {2 * suppress, false}, {maxPen, false}, {maxPen + 1, false}, {1 << 32, false}, {math.MaxInt, false},
		} {
			c := usual()
			c.Suppress, c.Reuse = suppress, l.reuse
			checkRight(t, c, l.want)
		}
	}
	for _, suppress := range []int{math.MinInt, -1, 0, maxPen + 1, math.MaxInt} {
		for _, reuse := range []int{math.MinInt, -2, -1, 0, 1, maxPen - 1, maxPen, math.MaxInt - 1} {
			c := usual()
			c.Suppress, c.Reuse = suppress, reuse
			checkRight(t, c, false)
		}
	}
}

// G1, for any: one that is valid, and one with a field or two that are not.
func TestRightOfAny(t *testing.T) {
	r := rand.New(rand.NewSource(20))
	for range 20000 {
		c := someConfig(r)
		checkRight(t, c, true)
		for range 1 + r.Intn(2) {
			f := fields[r.Intn(len(fields))]
			l := append(f.bad(), f.good()...)
			c = f.set(c, l[r.Intn(len(l))])
		}
		checkRight(t, c, valid(c))
	}
}

func checkZero(t *testing.T, c api.Config, want api.Plan) {
	t.Helper()
	if got := policy.Zero(c); !alike(got, want) {
		t.Errorf("Zero(%+v) = %+v, want %+v", c, got, want)
	}
}

// G1: the zero plan, for each number of targets, and whatever else the config says.
func TestZero(t *testing.T) {
	r := rand.New(rand.NewSource(21))
	for _, base := range append(bases(), someConfig(r), someConfig(r), someConfig(r)) {
		for size := 1; size <= 16; size++ {
			c := withTiers(base, slices.Repeat([]int{size - 1}, size)...)
			zero := api.Plan{Target: -1, Prev: -1, Spill: -1, Pen: make([]int, size)}
			checkZero(t, c, zero)
			if !plan.Right(zero) || !fitting(c, zero) {
				t.Errorf("%+v does not fit", zero)
			}
		}
	}
}

// G1: a Plan with all fields zero for any other config.
func TestZeroOfWrong(t *testing.T) {
	for _, c := range spoilt() {
		checkZero(t, c, api.Plan{})
	}
}

// G1: each zero plan has a list of its own.
func TestZeroIsNew(t *testing.T) {
	c := usual()
	p := policy.Zero(c)
	for i := range p.Pen {
		p.Pen[i] = 7
	}
	checkZero(t, c, api.Plan{Target: -1, Prev: -1, Spill: -1, Pen: []int{0, 0, 0}})
}

// fittingPlan fits a config, and has nothing but valid numbers; with its Up inverted there is always a next plan.
func fittingPlan(c api.Config) api.Plan {
	return api.Plan{
		Epoch: 7, Target: c.Targets - 1, Prev: -1, Spill: 0, Percent: 20, Stamp: 1000, Since: 900, Ramped: 950,
		Up: 1, Pen: slices.Repeat([]int{5}, c.Targets), Changes: []int64{900},
	}
}

// G2: a config that is not valid is refused, though the plan fits all else, or is the zero plan.
func TestNextOfWrongConfig(t *testing.T) {
	for _, c := range bases() {
		next(t, c, fittingPlan(c), 2, 1001)
		next(t, c, policy.Zero(c), 1, 1001)
		for _, f := range fields {
			for _, n := range f.bad() {
				checkNone(t, f.set(c, n), fittingPlan(c), 2, 1001)
				checkNone(t, f.set(c, n), policy.Zero(c), 1, 1001)
			}
		}
		for _, wrong := range spoiltTiers(c) {
			checkNone(t, wrong, fittingPlan(c), 2, 1001)
		}
	}
	for _, c := range spoilt() {
		checkNone(t, c, policy.Zero(c), 1, 5)
		checkNone(t, c, api.Plan{Target: -1, Prev: -1, Spill: -1, Pen: make([]int, max(min(c.Targets, 16), 0))}, 1, 5)
	}
}

// wrongPlans are plans that do not fit a config of 1 to 15 targets, each for one reason.
func wrongPlans(c api.Config) []api.Plan {
	var l []api.Plan
	with := func(change func(p *api.Plan)) {
		p := fittingPlan(c)
		change(&p)
		l = append(l, p)
	}
	for _, n := range []int64{-1, math.MinInt64} {
		with(func(p *api.Plan) { p.Epoch = n })
	}
	for _, n := range []int{-2, math.MinInt, c.Targets, c.Targets + 1, 15, 16, 1 << 32, math.MaxInt} {
		if n < 0 || n >= c.Targets {
			with(func(p *api.Plan) { p.Target = n })
			with(func(p *api.Plan) { p.Prev = n })
			with(func(p *api.Plan) { p.Spill = n })
		}
	}
	for _, n := range []int{-1, math.MinInt, 101, math.MaxInt} {
		with(func(p *api.Plan) { p.Percent = n })
	}
	for _, n := range []int64{-1, math.MinInt64, maxTime + 1, math.MaxInt64} {
		with(func(p *api.Plan) { p.Stamp = n })
		with(func(p *api.Plan) { p.Since = n })
		with(func(p *api.Plan) { p.Ramped = n })
		with(func(p *api.Plan) { p.Changes = []int64{n} })
	}
	for bit := c.Targets; bit < 64; bit++ {
		with(func(p *api.Plan) { p.Up |= 1 << bit })
		with(func(p *api.Plan) { p.Sup |= 1 << bit })
	}
	with(func(p *api.Plan) { p.Pen = nil })
	with(func(p *api.Plan) { p.Pen = p.Pen[1:] })
	with(func(p *api.Plan) { p.Pen = append(p.Pen, 5) })
	with(func(p *api.Plan) { p.Pen = make([]int, 16+c.Targets) })
	for at := range c.Targets {
		for _, n := range []int{-1, math.MinInt, maxPen + 1, math.MaxInt} {
			with(func(p *api.Plan) { p.Pen[at] = n })
		}
	}
	with(func(p *api.Plan) { p.Changes = make([]int64, c.B+1) })
	with(func(p *api.Plan) { p.Changes = make([]int64, 9) })
	with(func(p *api.Plan) { p.Changes = make([]int64, 64) })
	with(func(p *api.Plan) { p.Changes = []int64{901, 900} })
	return l
}

// G2: a plan that does not fit is refused, for each number of targets, and each B.
func TestNextOfWrongPlan(t *testing.T) {
	for size := 1; size <= 16; size++ {
		for b := 1; b <= 8; b++ {
			c := withTiers(usual(), make([]int, size)...)
			c.B = b
			for _, now := range []int64{1000, 1001, 2000} {
				next(t, c, fittingPlan(c), ^uint64(1), now)
				next(t, c, fittingPlan(c), 0, now)
			}
			for _, p := range wrongPlans(c) {
				if fitting(c, p) {
					t.Errorf("%+v fits %+v", p, c)
				}
				checkNone(t, c, p, 0, 1001)
				checkNone(t, c, p, ^p.Up, 1001)
				checkNone(t, c, p, ^p.Up&all(size), 2000)
			}
		}
	}
	checkNone(t, usual(), api.Plan{}, 1, 5)
}

// G2: a plan whose numbers are all at their bounds is not refused.
func TestNextOfBounds(t *testing.T) {
	for size := 1; size <= 16; size++ {
		c := withTiers(usual(), make([]int, size)...)
		c.B = 8
		for _, target := range []int{-1, 0, size - 1} {
			for _, l := range []api.Plan{
				{Pen: make([]int, size)},
				{Percent: 100, Stamp: maxTime, Since: maxTime, Ramped: maxTime, Up: all(size), Sup: all(size), Pen: slices.Repeat([]int{maxPen}, size), Changes: slices.Repeat([]int64{maxTime}, 8)},
				{Percent: 100, Since: maxTime, Ramped: maxTime, Up: all(size), Pen: slices.Repeat([]int{maxPen}, size), Changes: slices.Repeat([]int64{0}, 8)},
			} {
				p := l
				p.Target, p.Prev, p.Spill = target, size-1, target
				for _, now := range []int64{0, 1000, maxTime} {
					next(t, c, p, ^p.Up, now)
					checkWords(t, c, p, ^p.Up, now)
					checkWords(t, c, p, p.Up, now)
				}
			}
		}
	}
}

// G2: Epoch increases by one, up to 2^62; a plan of this Epoch, or of a later one, is refused.
func TestNextEpoch(t *testing.T) {
	for _, c := range bases() {
		p := policy.Zero(c)
		for _, epoch := range []int64{0, 1, 2, 1 << 32, endEpoch / 2, endEpoch - 2, endEpoch - 1} {
			p.Epoch = epoch
			if n := next(t, c, p, 1, 5); n.Epoch != epoch+1 {
				t.Errorf("Epoch %d after %d", n.Epoch, epoch)
			}
			checkNone(t, c, p, 0, 0)
		}
		for _, epoch := range []int64{endEpoch, endEpoch + 1, endEpoch + endEpoch/2, math.MaxInt64 - 1, math.MaxInt64} {
			p.Epoch = epoch
			checkNone(t, c, p, 1, 5)
			checkNone(t, c, p, 0, 0)
		}
	}
}

// The examples of the chapter.
func TestExamples(t *testing.T) {
	c := withTiers(usual(), 1, 0)
	first := api.Plan{Epoch: 1, Target: 1, Prev: -1, Spill: 0, Percent: 100, Stamp: 5, Since: 5, Ramped: 5, Up: 3, Pen: []int{0, 0}, Changes: []int64{5}}
	checkNext(t, c, policy.Zero(c), 3, 5, first, true)
	second := api.Plan{Epoch: 2, Target: 0, Prev: 1, Spill: -1, Percent: 100, Stamp: 8, Since: 8, Ramped: 8, Up: 1, Pen: []int{0, 1000}, Changes: []int64{5, 8}}
	checkNext(t, c, first, 1, 5+c.D, second, true)
}

// What was passed stays as it was, with the room behind the ends of its lists; and what is returned shares nothing with it.
func TestLeavesWhatWasPassed(t *testing.T) {
	changes, stays := 0, 0
	for seed := range int64(6000) {
		r := rand.New(rand.NewSource(seed))
		c := livelyConfig(r)
		now := 40 + r.Int63n(100)
		p := somePlan(r, c, now)
		pen, ticks, tiers := roomy(p.Pen, -7), roomy(p.Changes, -8), roomy(c.Tiers, -9)
		p.Pen, p.Changes, c.Tiers = pen[:len(p.Pen)], ticks[:len(p.Changes)], tiers[:len(c.Tiers)]
		before := [][]int{slices.Clone(pen), slices.Clone(tiers)}
		beforeTicks := slices.Clone(ticks)
		up := r.Uint64()
		want, is := followed(c, p, up, now)
		for range 3 {
			n, found := policy.Next(c, p, up, now)
			if found != is || !alike(n, want) {
				t.Fatalf("seed %d: %+v, %v, want %+v, %v", seed, n, found, want, is)
			}
			switch {
			case is && n.Target != p.Target:
				changes++
			case is:
				stays++
			}
			overwrite(n.Pen, 123)
			overwrite(n.Changes, 456)
			overwrite(policy.Zero(c).Pen, 789)
			if !slices.Equal(pen, before[0]) || !slices.Equal(tiers, before[1]) || !slices.Equal(ticks, beforeTicks) {
				t.Fatalf("seed %d: %v, %v, %v, want %v, %v", seed, pen, ticks, tiers, before, beforeTicks)
			}
		}
	}
	if changes < 3000 || stays < 3000 {
		t.Errorf("only %d changes, and %d others", changes, stays)
	}
}

// roomy is a list with other numbers behind its end.
func roomy[T int | int64](l []T, behind T) []T {
	return append(slices.Clone(l), slices.Repeat([]T{behind}, 10)...)
}

// overwrite changes all of a list, up to its capacity, and what is appended to it.
func overwrite[T int | int64](l []T, n T) {
	for i := range l[:cap(l)] {
		l[:cap(l)][i] = n
	}
	_ = append(l, n)
}

// Nothing is kept: the same call has the same result after others, among them such as are refused.
func TestKeepsNothing(t *testing.T) {
	c := withTiers(usual(), 1, 0)
	for range 3 {
		checkNext(t, c, policy.Zero(c), 1, 5, api.Plan{Epoch: 1, Target: 0, Prev: -1, Spill: -1, Percent: 100, Stamp: 5, Since: 5, Ramped: 5, Up: 1, Pen: []int{0, 0}, Changes: []int64{5}}, true)
		policy.Next(c, policy.Zero(c), 2, 50)
		policy.Next(c, policy.Zero(most()), 2, 50)
		policy.Next(most(), policy.Zero(most()), 7, 500)
		policy.Next(api.Config{}, api.Plan{}, 1, 5)
		policy.Zero(api.Config{})
	}
}
