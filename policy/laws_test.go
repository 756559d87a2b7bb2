package policy_test

import (
	"math"
	"math/rand"
	"slices"
	"testing"

	"locum/api"
	"locum/plan"
	"locum/policy"
)

// Promises P13.2 to P13.4, over rows of plans, each computed from the one ahead.

// step is a plan that was returned, the one that it was computed from, and what was asked for.
type step struct {
	before, after api.Plan
	up            uint64
	now           int64
}

// row is what was computed from a first plan.
type row struct {
	seed  int64
	c     api.Config
	steps []step
}

// flaps is what is up from call to call.
type flaps func(r *rand.Rand, c api.Config, p api.Plan, up uint64) uint64

// hardly and seldom turn one target by chance, often turns all of them; always has all up but the target.
func hardly(r *rand.Rand, c api.Config, p api.Plan, up uint64) uint64 {
	if r.Intn(30) == 0 {
		up ^= 1 << r.Intn(c.Targets)
	}
	return up
}

func seldom(r *rand.Rand, c api.Config, p api.Plan, up uint64) uint64 {
	if r.Intn(5) == 0 {
		up ^= 1 << r.Intn(c.Targets)
	}
	return up
}

func often(r *rand.Rand, c api.Config, p api.Plan, up uint64) uint64 { return r.Uint64() }

func always(r *rand.Rand, c api.Config, p api.Plan, up uint64) uint64 {
	if p.Target >= 0 {
		return ^(uint64(1) << p.Target)
	}
	return math.MaxUint64
}

// ticks is how time goes on from call to call: tick by tick, by some, far, or back.
func ticks(r *rand.Rand, now int64, pace int) int64 {
	switch {
	case pace == 0:
		return now + 1
	case r.Intn(60) == 0:
		return now + r.Int63n(int64(1)<<r.Intn(41))
	case r.Intn(10) == 0:
		return now - r.Int63n(40)
	default:
		return now + r.Int63n(6)
	}
}

// rowOf computes plans from a first one.
func rowOf(r *rand.Rand, seed int64, c api.Config, p api.Plan, now int64) row {
	l := row{seed: seed, c: c}
	flap := []flaps{hardly, seldom, often, always}[r.Intn(4)]
	pace := r.Intn(3)
	up := r.Uint64()
	for range 150 {
		up = flap(r, c, p, up)
		n, is := policy.Next(c, p, up, now)
		if is {
			l.steps = append(l.steps, step{p, n, up, now})
			p = n
		}
		now = ticks(r, now, pace)
	}
	return l
}

// rows are from the zero plan, or from any plan that fits; times begin anywhere.
func rows(size int64, look func(l row)) {
	for seed := range size {
		r := rand.New(rand.NewSource(seed))
		c := livelyConfig(r)
		if r.Intn(15) == 0 {
			c = someConfig(r)
		}
		now := []int64{-20, 0, 100, 1 << 35, maxTime - 300}[r.Intn(5)] + r.Int63n(20)
		p := policy.Zero(c)
		if r.Intn(3) == 0 {
			p = somePlan(r, c, now)
		}
		look(rowOf(r, seed, c, p, now))
	}
}

// changed tells whether a step is a change.
func (s step) changed() bool { return s.after.Target != s.before.Target }

// changes are the stamps of the changes of a row.
func (l row) changes() []int64 {
	var stamps []int64
	for _, s := range l.steps {
		if s.changed() {
			stamps = append(stamps, s.after.Stamp)
		}
	}
	return stamps
}

// P13.2: stamps never decrease, and are not below the time that was told, up to MaxTime; epochs increase one by one.
func TestStampsNeverDecrease(t *testing.T) {
	plans, back := 0, 0
	rows(2500, func(l row) {
		for _, s := range l.steps {
			plans++
			if s.now < s.before.Stamp {
				back++
			}
			if s.after.Stamp < s.before.Stamp || s.after.Stamp < min(s.now, maxTime) || s.after.Stamp > maxTime || s.after.Epoch != s.before.Epoch+1 {
				t.Fatalf("seed %d: %+v", l.seed, s)
			}
		}
	})
	if plans < 60000 || back < 2000 {
		t.Errorf("only %d plans, %d of them back in time", plans, back)
	}
}

// P13.2: the stamps of changes are at least D apart.
func TestChangesAreApart(t *testing.T) {
	exactly := 0
	rows(2500, func(l row) {
		stamps := l.changes()
		for i := 1; i < len(stamps); i++ {
			switch apart := stamps[i] - stamps[i-1]; {
			case apart < l.c.D:
				t.Fatalf("seed %d: D %d, changes at %v", l.seed, l.c.D, stamps)
			case apart == l.c.D:
				exactly++
			}
		}
	})
	if exactly < 1000 {
		t.Errorf("only %d pairs are D apart", exactly)
	}
}

// P13.2: of any B + 1 changes the first and the last one are more than W apart.
func TestChangesAreFew(t *testing.T) {
	exactly := 0
	rows(2500, func(l row) {
		stamps := l.changes()
		for i := l.c.B; i < len(stamps); i++ {
			switch apart := stamps[i] - stamps[i-l.c.B]; {
			case apart <= l.c.W:
				t.Fatalf("seed %d: B %d, W %d, changes at %v", l.seed, l.c.B, l.c.W, stamps)
			case apart == l.c.W+1:
				exactly++
			}
		}
	})
	if exactly < 1000 {
		t.Errorf("only %d are W + 1 apart", exactly)
	}
}

// P13.2: between two changes Target stays, with Prev, Since and Changes, and Percent never decreases.
func TestBetweenChanges(t *testing.T) {
	grown := 0
	rows(2500, func(l row) {
		for _, s := range l.steps {
			if s.changed() {
				continue
			}
			a, b := s.before, s.after
			if b.Percent < a.Percent || b.Prev != a.Prev || b.Since != a.Since || b.Ramped < a.Ramped || !slices.Equal(a.Changes, b.Changes) {
				t.Fatalf("seed %d: %+v", l.seed, s)
			}
			if b.Percent > a.Percent {
				grown++
				if b.Percent > a.Percent+l.c.Step || b.Ramped != b.Stamp || b.Stamp < a.Ramped+l.c.StepTime {
					t.Fatalf("seed %d: %+v", l.seed, s)
				}
			}
		}
	})
	if grown < 2000 {
		t.Errorf("only %d have grown", grown)
	}
}

// P13.2: a change is kept in Changes with those ahead of it, so that no plan of a row forgets one too early.
func TestChangesAreKept(t *testing.T) {
	rows(1500, func(l row) {
		var stamps []int64
		if len(l.steps) > 0 {
			stamps = slices.Clone(l.steps[0].before.Changes)
		}
		for _, s := range l.steps {
			if s.changed() {
				stamps = append(stamps, s.after.Stamp)
			}
			last := stamps[max(len(stamps)-l.c.B, 0):]
			if !slices.Equal(s.after.Changes, last) {
				t.Fatalf("seed %d: Changes %v, want %v", l.seed, s.after.Changes, last)
			}
		}
	})
}

// P13.2: a target that flaps tick by tick is changed as seldom as D, W and B ask for, and no seldomer.
func TestFlappingTickByTick(t *testing.T) {
	c := withTiers(usual(), 0, 0)
	p := policy.Zero(c)
	var stamps []int64
	for now := range int64(160) {
		up := uint64(1)
		if p.Target == 0 {
			up = 2
		}
		if n, is := policy.Next(c, p, up, now); is {
			if n.Target != p.Target {
				stamps = append(stamps, now)
			}
			p = n
		}
	}
	if want := []int64{0, 3, 6, 51, 54, 57, 102, 105, 108, 153, 156, 159}; !slices.Equal(stamps, want) {
		t.Errorf("changes at %v, want %v", stamps, want)
	}
}

// P13.2: a better target that is up again is returned to after Dwell, and gets its traffic step by step.
func TestReturnIsGradual(t *testing.T) {
	c := withTiers(usual(), 1, 0)
	p := next(t, c, policy.Zero(c), 1, 0)
	var percents []int
	var stamps []int64
	for now := range int64(40) {
		if n, is := policy.Next(c, p, 3, now); is {
			percents, stamps, p = append(percents, n.Percent), append(stamps, now), n
		}
	}
	if !slices.Equal(percents, []int{100, 20, 60, 100}) || !slices.Equal(stamps, []int64{0, 10, 15, 20}) || p.Target != 1 || p.Prev != 0 {
		t.Errorf("%v at %v, and then %+v", percents, stamps, p)
	}
}

// P13.3: a change leads to a target that is up, both by what was told and by the plan.
func TestChangeLeadsToUp(t *testing.T) {
	changes := 0
	rows(2500, func(l row) {
		for _, s := range l.steps {
			if !s.changed() {
				continue
			}
			changes++
			if s.after.Target < 0 || s.up>>s.after.Target&1 == 0 || s.after.Up>>s.after.Target&1 == 0 {
				t.Fatalf("seed %d: %+v", l.seed, s)
			}
			if s.after.Prev != s.before.Target || s.after.Since != s.after.Stamp || s.after.Ramped != s.after.Stamp {
				t.Fatalf("seed %d: %+v", l.seed, s)
			}
		}
	})
	if changes < 10000 {
		t.Errorf("only %d changes", changes)
	}
}

// P13.3: a change leads to one that is left out only where all that are up are; Spill is never left out, nor the target, nor down.
func TestChangeLeadsToGood(t *testing.T) {
	worst := 0
	rows(2500, func(l row) {
		for _, s := range l.steps {
			n := s.after
			good := n.Up &^ n.Sup
			if s.changed() && good>>n.Target&1 == 0 {
				worst++
				if good != 0 {
					t.Fatalf("seed %d: %+v", l.seed, s)
				}
			}
			if n.Spill == n.Target && n.Spill >= 0 || n.Spill >= 0 && good>>n.Spill&1 == 0 {
				t.Fatalf("seed %d: %+v", l.seed, s)
			}
		}
	})
	if worst < 500 {
		t.Errorf("only %d changes to one that is left out", worst)
	}
}

// P13.4: what is returned fits, and is valid.
func TestReturnedFits(t *testing.T) {
	plans := 0
	rows(2500, func(l row) {
		for _, s := range l.steps {
			plans++
			if !fitting(l.c, s.after) || !plan.Right(s.after) {
				t.Fatalf("seed %d: %+v of %+v", l.seed, s, l.c)
			}
		}
	})
	if plans < 60000 {
		t.Errorf("only %d plans", plans)
	}
}

// P13.4: so it does of plans whose numbers are at their bounds, or anywhere between, for any config.
func TestReturnedFitsOfAny(t *testing.T) {
	plans := 0
	for seed := range int64(40000) {
		r := rand.New(rand.NewSource(seed))
		c := someConfig(r)
		if r.Intn(2) == 0 {
			c = livelyConfig(r)
		}
		near := someNumber(r, 0, maxTime)
		p := somePlan(r, c, near)
		if n, is := policy.Next(c, p, r.Uint64(), near+r.Int63n(1000)); is {
			plans++
			if !fitting(c, n) || !plan.Right(n) || n.Epoch > endEpoch {
				t.Fatalf("seed %d: %+v of %+v", seed, n, p)
			}
		}
	}
	if plans < 30000 {
		t.Errorf("only %d plans", plans)
	}
}

// P13.1: what is computed from a plan over its bytes is what is computed from the plan.
func TestOverBytes(t *testing.T) {
	rows(200, func(l row) {
		for _, s := range l.steps {
			b, err := plan.Put(s.before)
			if err != api.OK {
				t.Fatalf("seed %d: %+v: %v", l.seed, s.before, err)
			}
			p, err := plan.Get(b)
			if n, is := policy.Next(l.c, p, s.up, s.now); err != api.OK || !is || !plan.Same(n, s.after) {
				t.Fatalf("seed %d: %+v, want %+v", l.seed, n, s.after)
			}
		}
	})
}

// P13.1: over rows, what is returned is what the document's words say, and so is what comes after it with the same targets up.
func TestRowsByWords(t *testing.T) {
	rows(700, func(l row) {
		for _, s := range l.steps {
			checkWords(t, l.c, s.before, s.up, s.now)
			checkWords(t, l.c, s.after, s.up, s.now)
			checkWords(t, l.c, s.after, s.up, s.now+1)
		}
	})
}
