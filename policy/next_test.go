package policy_test

import (
	"math"
	"math/rand"
	"slices"
	"testing"

	"locum/api"
	"locum/policy"
)

// Promise P13.1: what Next returns, part by part.

// settledPlan is one of usual: Target 1 since 100, all traffic, all up, nothing left out.
func settledPlan() api.Plan {
	return api.Plan{
		Epoch: 9, Target: 1, Prev: 0, Spill: 2, Percent: 100, Stamp: 200, Since: 100, Ramped: 110,
		Up: 7, Pen: []int{0, 0, 0}, Changes: []int64{100},
	}
}

// plus is a plan with some fields changed.
func plus(p api.Plan, change func(p *api.Plan)) api.Plan {
	p.Pen, p.Changes = slices.Clone(p.Pen), slices.Clone(p.Changes)
	change(&p)
	return p
}

// G2: t is the greater one of now and Stamp, and at most MaxTime.
func TestNextTime(t *testing.T) {
	for _, l := range []struct{ stamp, now, want int64 }{
		{200, math.MinInt64, 200}, {200, -maxTime, 200}, {200, -1, 200}, {200, 0, 200}, {200, 1, 200}, {200, 199, 200},
		{200, 200, 200}, {200, 201, 201}, {200, 230, 230}, {200, 1 << 32, 1 << 32}, {200, maxTime - 1, maxTime - 1}, {200, maxTime, maxTime},
		{200, maxTime + 1, maxTime}, {200, 2 * maxTime, maxTime}, {200, math.MaxInt64, maxTime},
		{0, math.MinInt64, 0}, {0, -1, 0}, {0, 0, 0}, {0, 1, 1}, {0, maxTime, maxTime}, {0, math.MaxInt64, maxTime},
		{maxTime - 1, 0, maxTime - 1}, {maxTime - 1, maxTime - 1, maxTime - 1}, {maxTime - 1, maxTime, maxTime}, {maxTime - 1, maxTime + 1, maxTime},
		{maxTime, math.MinInt64, maxTime}, {maxTime, 0, maxTime}, {maxTime, maxTime - 1, maxTime}, {maxTime, maxTime, maxTime}, {maxTime, maxTime + 1, maxTime}, {maxTime, math.MaxInt64, maxTime},
	} {
		p := plus(settledPlan(), func(p *api.Plan) { p.Stamp = l.stamp })
		want := plus(p, func(p *api.Plan) { p.Epoch, p.Stamp, p.Up, p.Pen[0] = 10, l.want, 6, 1000 })
		checkNext(t, usual(), p, 6, l.now, want, true)

		// t is what a change has as its stamp, too.
		p = plus(policy.Zero(usual()), func(p *api.Plan) { p.Stamp = l.stamp })
		want = api.Plan{Epoch: 1, Target: 1, Prev: -1, Spill: 2, Percent: 100, Stamp: l.want, Since: l.want, Ramped: l.want, Up: 7, Pen: []int{0, 0, 0}, Changes: []int64{l.want}}
		checkNext(t, usual(), p, 7, l.now, want, true)
	}
}

// G2: penalties decay from Stamp to t, and so not with a now below Stamp.
func TestNextDecaysSinceStamp(t *testing.T) {
	for _, l := range []struct {
		now  int64
		want int
	}{
		{math.MinInt64, 1000}, {-1, 1000}, {0, 1000}, {199, 1000}, {200, 1000}, {201, 1000}, {202, 957}, {215, 707}, {229, 522}, {230, 500},
		{259, 261}, {260, 250}, {290, 125}, {200 + 9*30, 1}, {200 + 10*30, 0}, {maxTime, 0}, {math.MaxInt64, 0},
	} {
		p := plus(settledPlan(), func(p *api.Plan) { p.Pen = []int{0, 1000, 0}; p.Up = 5 })
		n := next(t, usual(), p, 7, l.now)
		if want := []int{0, l.want, 0}; !slices.Equal(n.Pen, want) {
			t.Errorf("Pen %v at %d, want %v", n.Pen, l.now, want)
		}
	}
}

// G2: the half-life is Half, of the config.
func TestNextHalf(t *testing.T) {
	for _, half := range []int64{1, 2, 7, 16, 1000, 1 << 20} {
		c := usual()
		c.Half = half
		for halvings := range int64(12) {
			p := plus(settledPlan(), func(p *api.Plan) { p.Pen, p.Up = []int{0, maxPen, 3}, 5 })
			n := next(t, c, p, 7, 200+halvings*half)
			if want := []int{0, maxPen >> halvings, 3 >> halvings}; !slices.Equal(n.Pen, want) {
				t.Errorf("Half %d: Pen %v after %d of them, want %v", half, n.Pen, halvings, want)
			}
		}
	}
}

// G2: Hit is added just where a target was up and is not, after its penalty has decayed.
func TestNextHits(t *testing.T) {
	for _, l := range []struct {
		was, is uint64
		want    []int
	}{
		{7, 6, []int{1050, 100, 150}}, {7, 5, []int{50, 1100, 150}}, {7, 3, []int{50, 100, 1150}}, {7, 0, []int{1050, 1100, 1150}}, {7, 1, []int{50, 1100, 1150}},
		{1, 0, []int{1050, 100, 150}}, {1, 6, []int{1050, 100, 150}}, {1, 3, []int{50, 100, 150}},
		{2, 0, []int{50, 1100, 150}}, {2, 5, []int{50, 1100, 150}}, {4, 3, []int{50, 100, 1150}}, {4, 7, []int{50, 100, 150}},
		{0, 7, []int{50, 100, 150}}, {0, 2, []int{50, 100, 150}}, {6, 1, []int{50, 1100, 1150}},
	} {
		p := plus(settledPlan(), func(p *api.Plan) { p.Pen, p.Up = []int{100, 200, 300}, l.was })
		for _, high := range []uint64{0, 8, 0xfff8, ^uint64(7)} {
			if n := next(t, usual(), p, l.is|high, 230); !slices.Equal(n.Pen, l.want) || n.Up != l.is {
				t.Errorf("from %#x to %#x: Pen %v, Up %#x, want %v", l.was, l.is|high, n.Pen, n.Up, l.want)
			}
		}
	}
}

// G2: a penalty is hit up to MaxPen, with a Hit of 0 not at all.
func TestNextHitBounds(t *testing.T) {
	for _, l := range []struct {
		pen, hit int
		now      int64
		want     int
	}{
		{0, 0, 200, 0}, {5, 0, 200, 5}, {maxPen, 0, 200, maxPen}, {maxPen, 0, 230, maxPen / 2}, {0, 1, 200, 1}, {1000, 1, 230, 501},
		{maxPen, 1, 200, maxPen}, {maxPen - 1, 1, 200, maxPen}, {maxPen - 2, 1, 200, maxPen - 1}, {maxPen - 1, 2, 200, maxPen},
		{0, maxPen, 200, maxPen}, {1, maxPen, 200, maxPen}, {1, maxPen - 1, 200, maxPen}, {1, maxPen - 2, 200, maxPen - 1}, {maxPen, maxPen, 200, maxPen},
		{maxPen, maxPen / 2, 230, maxPen}, {maxPen, maxPen/2 - 1, 230, maxPen - 1}, {maxPen, maxPen, 230, maxPen},
	} {
		c := usual()
		c.Hit = l.hit
		p := plus(settledPlan(), func(p *api.Plan) { p.Pen[2] = l.pen })
		if n := next(t, c, p, 3, l.now); n.Pen[2] != l.want {
			t.Errorf("Pen %v of %d with Hit %d, want %d", n.Pen, l.pen, l.hit, l.want)
		}
	}
}

// leaves is whether a target is left out that was not, and one that was.
type leaves [2]bool

// G2: from Suppress on a target is left out, up to Reuse it is not, and between them it stays as it was; it counts what is left, and hit.
func TestNextSup(t *testing.T) {
	for _, l := range []struct {
		pen int
		up  bool // still
		now int64
		out leaves
	}{
		{1499, true, 200, leaves{false, true}}, {1500, true, 200, leaves{true, true}}, {1501, true, 200, leaves{true, true}}, {maxPen, true, 200, leaves{true, true}},
		{701, true, 200, leaves{false, true}}, {700, true, 200, leaves{false, false}}, {699, true, 200, leaves{false, false}}, {0, true, 200, leaves{false, false}},
		{3000, true, 230, leaves{true, true}}, {2999, true, 230, leaves{false, true}}, {1402, true, 230, leaves{false, true}}, {1401, true, 230, leaves{false, false}}, {1400, true, 230, leaves{false, false}},
		{0, false, 200, leaves{false, true}}, {499, false, 200, leaves{false, true}}, {500, false, 200, leaves{true, true}},
		{998, false, 230, leaves{false, true}}, {1000, false, 230, leaves{true, true}},
	} {
		for at := range 3 {
			one := uint64(1) << at
			for before, sup := range []uint64{0, one} {
				p := plus(settledPlan(), func(p *api.Plan) { p.Pen[at], p.Target, p.Sup = l.pen, (at+1)%3, sup })
				now, want := uint64(7), uint64(0)
				if !l.up {
					now -= one
				}
				if l.out[before] {
					want = one
				}
				// Another target that comes up, so that there is a next plan anyway.
				p.Up -= 1 << ((at + 1) % 3)
				if n := next(t, usual(), p, now, l.now); n.Sup != want {
					t.Errorf("Sup %#x of %#x at penalty %d, up %v, at %d, want %#x", n.Sup, p.Sup, l.pen, l.up, l.now, want)
				}
			}
		}
	}
}

// G2: Suppress and Reuse are those of the config, at their bounds.
func TestNextSupBounds(t *testing.T) {
	for _, l := range []struct {
		suppress, reuse, pen int
		out                  leaves
	}{
		{1, 0, 0, leaves{false, false}}, {1, 0, 1, leaves{true, true}}, {2, 0, 1, leaves{false, true}}, {2, 1, 1, leaves{false, false}},
		{maxPen, 0, maxPen, leaves{true, true}}, {maxPen, 0, maxPen - 1, leaves{false, true}}, {maxPen, 0, 1, leaves{false, true}}, {maxPen, 0, 0, leaves{false, false}},
		{maxPen, maxPen - 1, maxPen, leaves{true, true}}, {maxPen, maxPen - 1, maxPen - 1, leaves{false, false}},
	} {
		c := usual()
		c.Suppress, c.Reuse = l.suppress, l.reuse
		for before, sup := range []uint64{0, 4} {
			p := plus(settledPlan(), func(p *api.Plan) { p.Pen[2], p.Up, p.Sup = l.pen, 5, sup })
			want := uint64(0)
			if l.out[before] {
				want = 4
			}
			if n := next(t, c, p, 7, 200); n.Sup != want {
				t.Errorf("Suppress %d, Reuse %d: Sup %#x of %#x at penalty %d, want %#x", l.suppress, l.reuse, n.Sup, sup, l.pen, want)
			}
		}
	}
}

// G2: a target that is not up is left out, or no longer, too.
func TestNextSupOfDown(t *testing.T) {
	p := plus(settledPlan(), func(p *api.Plan) { p.Up, p.Sup, p.Pen = 3, 4, []int{0, 0, 1400} })
	n := next(t, usual(), p, 3, 230)
	if n.Sup != 0 || n.Spill != 0 {
		t.Errorf("%+v", n)
	}
	p = plus(settledPlan(), func(p *api.Plan) { p.Up, p.Spill, p.Pen = 3, 0, []int{0, 0, 1500} })
	if n := next(t, usual(), p, 3, 200); n.Sup != 4 {
		t.Errorf("%+v", n)
	}
}

// pick is what is up and left out, and what the candidate then is.
type pick struct {
	tiers   []int
	up, sup uint64
	want    int
}

// picks are for a Target of 0.
func picks() []pick {
	return []pick{
		{[]int{1, 0, 0}, 7, 0, 1}, {[]int{1, 0, 0}, 5, 0, 2}, {[]int{1, 0, 0}, 1, 0, 0}, {[]int{1, 0, 0}, 2, 0, 1}, {[]int{1, 0, 0}, 4, 0, 2},
		{[]int{0, 0, 0}, 7, 0, 0}, {[]int{0, 0, 0}, 6, 0, 1}, {[]int{2, 1, 0}, 7, 0, 2}, {[]int{2, 1, 0}, 3, 0, 1}, {[]int{2, 1, 0}, 1, 0, 0},
		{[]int{0, 1, 2}, 7, 0, 0}, {[]int{0, 1, 2}, 6, 0, 1}, {[]int{15, 15, 14}, 7, 0, 2}, {[]int{15, 15, 15}, 6, 0, 1},
		{[]int{1, 0, 0}, 7, 2, 2}, {[]int{1, 0, 0}, 7, 6, 0}, {[]int{1, 0, 0}, 3, 2, 0}, {[]int{1, 0, 2}, 7, 2, 0}, {[]int{2, 0, 1}, 7, 2, 2},
		{[]int{1, 0, 0}, 7, 7, 1}, {[]int{1, 0, 0}, 5, 7, 2}, {[]int{1, 0, 0}, 6, 7, 1}, {[]int{1, 0, 0}, 4, 4, 2}, {[]int{1, 0, 0}, 6, 6, 1}, {[]int{2, 1, 0}, 7, 7, 2},
		{[]int{1, 0, 0}, 0, 0, 0}, {[]int{1, 0, 0}, 0, 7, 0}, {[]int{1, 0, 0}, 0, 1, 0},
	}
}

// G2: the candidate is the best that is good; where none is, the best that is up; where none is, the target as it was.
func TestNextCandidate(t *testing.T) {
	for _, l := range picks() {
		c := withTiers(usual(), l.tiers...)
		pen := make([]int, 3)
		for target := range pen {
			if l.sup>>target&1 == 1 {
				pen[target] = 5000
			}
		}
		// Up has nothing that l.up has not, so that nobody is hit; and Percent is due, so that there is a next plan.
		p := api.Plan{Target: 0, Prev: 2, Spill: 2, Percent: 50, Stamp: 200, Since: 0, Ramped: 0, Sup: l.sup, Pen: pen}
		if n := next(t, c, p, l.up, 200); n.Target != l.want || n.Sup != l.sup {
			t.Errorf("%v: Target %d, Sup %#x", l, n.Target, n.Sup)
		}
		p.Target = -1
		want := l.want
		if l.up == 0 {
			want = -1
		}
		if n := next(t, c, p, l.up, 200); n.Target != want {
			t.Errorf("%v: Target %d from none, want %d", l, n.Target, want)
		}
	}
}

// G2: the best has the lowest tier of all, and then the lowest number, for each number of targets.
func TestNextBest(t *testing.T) {
	for size := 1; size <= 16; size++ {
		for first := range size {
			for second := first; second < size; second++ {
				tiers := slices.Repeat([]int{15}, size)
				tiers[first], tiers[second] = 14, 14
				c := withTiers(usual(), tiers...)
				if n := next(t, c, policy.Zero(c), all(size), 5); n.Target != first {
					t.Errorf("%v: Target %d", tiers, n.Target)
				}
				tiers = slices.Clone(tiers)
				tiers[second] = 0
				c.Tiers = tiers
				if n := next(t, c, policy.Zero(c), all(size), 5); n.Target != second {
					t.Errorf("%v: Target %d", tiers, n.Target)
				}
			}
		}
	}
}

// G2: bits of up at Targets and above count for nothing.
func TestNextHighBits(t *testing.T) {
	for size := 1; size <= 16; size++ {
		c := withTiers(usual(), make([]int, size)...)
		p := policy.Zero(c)
		for bit := size; bit < 64; bit++ {
			checkNone(t, c, p, 1<<bit, 3)
		}
		checkNone(t, c, p, ^all(size), 3)
		for up := range all(min(size, 6)) + 1 {
			want, is := policy.Next(c, p, up, 3)
			for _, high := range []uint64{1 << size, 1 << 63, ^all(size)} {
				checkNext(t, c, p, up|high, 3, want, is)
			}
		}
		first := next(t, c, p, all(size), 3)
		checkNone(t, c, first, math.MaxUint64, 4)
		checkNone(t, c, first, all(size)|1<<size, 4)
	}
}

// G2: no change where t is less than D after the last one; one at exactly D.
func TestNextD(t *testing.T) {
	for _, d := range []int64{1, 2, 3, 10, 1 << 20} {
		c := usual()
		c.D, c.B = d, 8
		for _, last := range [][]int64{{200}, {0, 200}, {200, 200}, {0, 1, 2, 3, 4, 5, 200}} {
			// Target 1 has gone down, so that it must be left.
			p := plus(settledPlan(), func(p *api.Plan) { p.Changes, p.Up, p.Since = last, 5, 200 })
			for _, early := range []int64{1, 2, d / 2, d} {
				if early > 0 && early <= d {
					checkNone(t, c, p, 5, 200+d-early)
				}
			}
			for _, late := range []int64{0, 1, d} {
				now := 200 + d + late
				want := api.Plan{Epoch: 10, Target: 2, Prev: 1, Spill: 0, Percent: 100, Stamp: now, Since: now, Ramped: now, Up: 5, Pen: []int{0, 0, 0}, Changes: append(slices.Clone(last), now)}
				checkNext(t, c, p, 5, now, want, true)
			}
		}
	}
}

// G2: without any change as yet, one may be at once.
func TestNextFirstChange(t *testing.T) {
	c := usual()
	c.D, c.W, c.B, c.Dwell = 1<<20, 1<<20, 1, 1<<20
	for _, since := range []int64{0, 200, 201, maxTime} {
		p := plus(settledPlan(), func(p *api.Plan) { p.Changes, p.Up, p.Since = nil, 5, since })
		want := api.Plan{Epoch: 10, Target: 2, Prev: 1, Spill: 0, Percent: 100, Stamp: 200, Since: 200, Ramped: 200, Up: 5, Pen: []int{0, 0, 0}, Changes: []int64{200}}
		checkNext(t, c, p, 5, 200, want, true)
	}
}

// G2: with B in Changes none as long as t is at most W after the first one of the last B; one at W + 1.
func TestNextW(t *testing.T) {
	for b := 1; b <= 8; b++ {
		for _, w := range []int64{1, 2, 50, 1 << 20} {
			c := usual()
			c.B, c.W, c.D = b, w, 1
			var full []int64
			for i := range b {
				full = append(full, 200+int64(i)/3)
			}
			last := full[b-1]
			p := plus(settledPlan(), func(p *api.Plan) { p.Changes, p.Up, p.Stamp = full, 5, last })
			for _, now := range []int64{last, last + 1, 200 + w - 1, 200 + w} {
				if now <= 200+w {
					checkNone(t, c, p, 5, now)
				}
			}
			for _, now := range []int64{200 + w + 1, 200 + w + 2, 200 + 2*w} {
				if now <= 200+w || now < last+c.D {
					continue
				}
				want := api.Plan{Epoch: 10, Target: 2, Prev: 1, Spill: 0, Percent: 100, Stamp: now, Since: now, Ramped: now, Up: 5, Pen: []int{0, 0, 0}, Changes: append(slices.Clone(full[1:]), now)}
				checkNext(t, c, p, 5, now, want, true)
			}
		}
	}
}

// G2: with fewer than B in Changes, W does not matter.
func TestNextFewerThanB(t *testing.T) {
	for b := 1; b <= 8; b++ {
		for size := range b {
			c := usual()
			c.B, c.W, c.D = b, 1<<20, 1
			p := plus(settledPlan(), func(p *api.Plan) { p.Changes, p.Up = slices.Repeat([]int64{199}, size), 5 })
			want := api.Plan{Epoch: 10, Target: 2, Prev: 1, Spill: 0, Percent: 100, Stamp: 200, Since: 200, Ramped: 200, Up: 5, Pen: []int{0, 0, 0}, Changes: append(slices.Clone(p.Changes), 200)}
			checkNext(t, c, p, 5, 200, want, true)
		}
	}
}

// G2: D and W are both asked for, each being the later one.
func TestNextDAndW(t *testing.T) {
	c := usual()
	c.B = 2
	for _, l := range []struct{ d, w, first int64 }{{3, 50, 251}, {50, 3, 260}, {40, 49, 250}, {40, 50, 251}, {41, 49, 251}, {42, 50, 252}} {
		c.D, c.W = l.d, l.w
		p := plus(settledPlan(), func(p *api.Plan) { p.Changes, p.Up, p.Stamp = []int64{200, 210}, 5, 210 })
		for now := int64(210); now < l.first; now++ {
			checkNone(t, c, p, 5, now)
		}
		if n := next(t, c, p, 5, l.first); n.Target != 2 || !slices.Equal(n.Changes, []int64{210, l.first}) {
			t.Errorf("D %d, W %d: %+v", l.d, l.w, n)
		}
	}
}

// G2: a target that is good is left for a better one at exactly Dwell after Since, not one tick earlier; the better one has First percent at first.
func TestNextDwell(t *testing.T) {
	for _, dwell := range []int64{1, 2, 10, 1 << 20} {
		for _, first := range []int{1, 20, 99, 100} {
			c := usual()
			c.Dwell, c.First = dwell, first
			p := api.Plan{Epoch: 9, Target: 0, Prev: 2, Spill: 1, Percent: 100, Stamp: 200, Since: 200, Ramped: 150, Up: 7, Pen: []int{0, 0, 0}, Changes: []int64{0}}
			for _, now := range []int64{0, 200, 200 + dwell/2, 200 + dwell - 2, 200 + dwell - 1} {
				if now < 200+dwell {
					checkNone(t, c, p, 7, now)
				}
			}
			for _, now := range []int64{200 + dwell, 200 + dwell + 1, 200 + 2*dwell} {
				want := api.Plan{Epoch: 10, Target: 1, Prev: 0, Spill: 2, Percent: first, Stamp: now, Since: now, Ramped: now, Up: 7, Pen: []int{0, 0, 0}, Changes: []int64{0, now}}
				checkNext(t, c, p, 7, now, want, true)
			}
		}
	}
}

// G2: a target that is not good is left without Dwell, and what is changed to has all traffic at once: one that is not up, or left out, or none.
func TestNextMustChange(t *testing.T) {
	for _, dwell := range []int64{1, 10, 1 << 20} {
		c := usual()
		c.Dwell = dwell
		for _, since := range []int64{0, 199, 200, 201, maxTime} {
			p := api.Plan{Epoch: 9, Target: 0, Prev: 2, Spill: 1, Percent: 60, Stamp: 200, Since: since, Ramped: 200, Up: 7, Pen: []int{0, 0, 0}, Changes: []int64{197}}
			want := api.Plan{Epoch: 10, Target: 1, Prev: 0, Spill: 2, Percent: 100, Stamp: 200, Since: 200, Ramped: 200, Up: 6, Pen: []int{1000, 0, 0}, Changes: []int64{197, 200}}
			checkNext(t, c, p, 6, 200, want, true)

			out := plus(p, func(p *api.Plan) { p.Sup, p.Pen[0] = 1, 1000 })
			want = plus(want, func(p *api.Plan) { p.Up, p.Sup = 7, 1 })
			checkNext(t, c, out, 7, 200, want, true)

			anew := plus(p, func(p *api.Plan) { p.Pen[0] = 1500 })
			want = plus(want, func(p *api.Plan) { p.Pen[0] = 1500 })
			checkNext(t, c, anew, 7, 200, want, true)

			none := plus(p, func(p *api.Plan) { p.Target = -1 })
			want = plus(want, func(p *api.Plan) { p.Prev, p.Sup, p.Pen[0] = -1, 0, 0 })
			checkNext(t, c, none, 7, 200, want, true)
		}
	}
}

// G2: where all that are up are left out, the target is not good, and is left for the best of them, if it is another one.
func TestNextAllLeftOut(t *testing.T) {
	p := api.Plan{Epoch: 9, Target: 0, Prev: 2, Spill: 1, Percent: 100, Stamp: 200, Since: 200, Ramped: 200, Up: 7, Sup: 7, Pen: []int{1000, 1000, 1000}, Changes: []int64{197}}
	want := api.Plan{Epoch: 10, Target: 1, Prev: 0, Spill: -1, Percent: 100, Stamp: 200, Since: 200, Ramped: 200, Up: 7, Sup: 7, Pen: []int{1000, 1000, 1000}, Changes: []int64{197, 200}}
	checkNext(t, usual(), p, 7, 200, want, true)
	want = plus(p, func(p *api.Plan) { p.Epoch, p.Target, p.Spill = 10, 1, -1 })
	checkNext(t, usual(), plus(p, func(p *api.Plan) { p.Target = 1 }), 7, 200, want, true)
}

// G2: where nothing is up, the target stays, be there one or none.
func TestNextNothingUp(t *testing.T) {
	for _, target := range []int{-1, 0, 1, 2} {
		p := plus(settledPlan(), func(p *api.Plan) { p.Target, p.Changes = target, nil })
		want := plus(p, func(p *api.Plan) { p.Epoch, p.Stamp, p.Up, p.Spill, p.Pen = 10, 205, 0, -1, []int{1000, 1000, 1000} })
		for i := range want.Pen {
			want.Pen[i] = 1000
		}
		checkNext(t, usual(), p, 0, 205, want, true)
	}
}

// G2: a change keeps the last B - 1 of Changes, and never has more than B; with a B of 1 its stamp alone.
func TestNextChanges(t *testing.T) {
	for b := 1; b <= 8; b++ {
		for size := range b + 1 {
			c := usual()
			c.B = b
			var stamps []int64
			for i := range size {
				stamps = append(stamps, int64(10*i))
			}
			p := plus(settledPlan(), func(p *api.Plan) { p.Changes, p.Up = stamps, 5 })
			n := next(t, c, p, 5, 300)
			want := append(slices.Clone(stamps), 300)
			if size == b {
				want = want[1:]
			}
			if !slices.Equal(n.Changes, want) {
				t.Errorf("B %d: Changes %v after %v, want %v", b, n.Changes, stamps, want)
			}
			n = next(t, c, p, 2, 300)
			if !slices.Equal(n.Changes, stamps) {
				t.Errorf("B %d: Changes %v without a change, want %v", b, n.Changes, stamps)
			}
		}
	}
}

// G2: without a change Percent grows by Step, to at most 100, at StepTime after Ramped, and not one tick earlier; Ramped is t then, and nothing else of where the traffic goes is changed.
func TestNextGrows(t *testing.T) {
	for _, l := range []struct{ percent, step, want int }{
		{0, 1, 1}, {0, 100, 100}, {20, 40, 60}, {60, 40, 100}, {59, 40, 99}, {61, 40, 100}, {80, 40, 100}, {99, 1, 100}, {98, 1, 99}, {99, 100, 100}, {1, 99, 100}, {1, 98, 99}, {50, 100, 100},
	} {
		for _, after := range []int64{1, 2, 5, 1 << 20} {
			c := usual()
			c.Step, c.StepTime = l.step, after
			p := plus(settledPlan(), func(p *api.Plan) { p.Percent, p.Ramped = l.percent, 200 })
			for _, now := range []int64{0, 199, 200, 200 + after/2, 200 + after - 2, 200 + after - 1} {
				if now < 200+after {
					checkNone(t, c, p, 7, now)
				}
			}
			for _, now := range []int64{200 + after, 200 + after + 1, 200 + 3*after} {
				want := plus(p, func(p *api.Plan) { p.Epoch, p.Stamp, p.Percent, p.Ramped = 10, now, l.want, now })
				checkNext(t, c, p, 7, now, want, true)
			}
		}
	}
}

// G2: with all traffic at the target, Ramped stays, whatever else there is to tell.
func TestNextGrowsNoMore(t *testing.T) {
	for _, now := range []int64{200, 210, 1 << 30, maxTime} {
		checkNone(t, usual(), settledPlan(), 7, now)
		n := next(t, usual(), settledPlan(), 3, now)
		if n.Percent != 100 || n.Ramped != 110 || n.Since != 100 || n.Stamp != now {
			t.Errorf("%+v", n)
		}
	}
}

// G2: a Ramped that is later than t grows nothing; a change does not wait for it, nor does what is up.
func TestNextRampedLater(t *testing.T) {
	p := plus(settledPlan(), func(p *api.Plan) { p.Percent, p.Ramped, p.Up = 40, 5000, 3; p.Spill = 0 })
	for _, now := range []int64{200, 4999, 5000, 5004} {
		checkNone(t, usual(), p, 3, now)
		want := plus(p, func(p *api.Plan) { p.Epoch, p.Stamp, p.Up, p.Spill = 10, now, 7, 2 })
		checkNext(t, usual(), p, 7, now, want, true)
	}
	if n := next(t, usual(), p, 3, 5005); n.Percent != 80 || n.Ramped != 5005 {
		t.Errorf("%+v", n)
	}
}

// G2: a change whose time has not come lets Percent grow all the same.
func TestNextGrowsAheadOfChange(t *testing.T) {
	p := plus(settledPlan(), func(p *api.Plan) {
		p.Target, p.Prev, p.Spill, p.Percent, p.Since, p.Ramped, p.Stamp = 0, 2, 1, 20, 200, 200, 200
	})
	want := plus(p, func(p *api.Plan) { p.Epoch, p.Stamp, p.Percent, p.Ramped = 10, 205, 60, 205 })
	checkNext(t, usual(), p, 7, 205, want, true)
}

// G2: a change and growth at once are the change alone.
func TestNextChangeInsteadOfGrowth(t *testing.T) {
	p := plus(settledPlan(), func(p *api.Plan) { p.Target, p.Prev, p.Percent, p.Ramped = 0, 2, 60, 190 })
	want := plus(p, func(p *api.Plan) {
		p.Epoch, p.Target, p.Prev, p.Spill, p.Percent, p.Stamp, p.Since, p.Ramped, p.Changes = 10, 1, 0, 2, 20, 210, 210, 210, []int64{100, 210}
	})
	checkNext(t, usual(), p, 7, 210, want, true)
}

// G2: the zero plan's Percent grows too while nothing is up, as the document's words have it.
func TestNextZeroGrows(t *testing.T) {
	c := usual()
	for now := range int64(5) {
		checkNone(t, c, policy.Zero(c), 0, now)
	}
	checkNext(t, c, policy.Zero(c), 0, 5, api.Plan{Epoch: 1, Target: -1, Prev: -1, Spill: -1, Percent: 40, Stamp: 5, Ramped: 5, Pen: []int{0, 0, 0}}, true)
}

// G2: Spill is the best of what is good without the new target, -1 if there is none.
func TestNextSpill(t *testing.T) {
	for _, l := range []struct {
		tiers   []int
		target  int
		up, sup uint64
		want    int
	}{
		{[]int{1, 0, 0}, 1, 7, 0, 2}, {[]int{1, 0, 0}, 1, 3, 0, 0}, {[]int{1, 0, 0}, 1, 2, 0, -1}, {[]int{1, 0, 0}, 1, 7, 4, 0}, {[]int{1, 0, 0}, 1, 7, 5, -1}, {[]int{1, 0, 0}, 1, 6, 4, -1},
		{[]int{0, 0, 0}, 0, 7, 0, 1}, {[]int{0, 0, 0}, 0, 5, 0, 2}, {[]int{0, 0, 0}, 0, 1, 0, -1}, {[]int{0, 2, 1}, 0, 7, 0, 2}, {[]int{0, 1, 2}, 0, 7, 0, 1}, {[]int{0, 1, 2}, 0, 7, 2, 2},
		{[]int{1, 0, 0}, 1, 7, 7, -1}, {[]int{1, 0, 0}, 1, 0, 0, -1}, {[]int{2, 1, 0}, 2, 7, 0, 1}, {[]int{2, 1, 0}, 2, 5, 0, 0},
	} {
		c := withTiers(usual(), l.tiers...)
		pen := make([]int, 3)
		for target := range pen {
			if l.sup>>target&1 == 1 {
				pen[target] = 1000
			}
		}
		// The target is the best already; Percent is due, so that there is a next plan.
		p := api.Plan{Target: l.target, Prev: 0, Spill: 0, Percent: 50, Stamp: 200, Sup: l.sup, Pen: pen}
		if n := next(t, c, p, l.up, 200); n.Target != l.target || n.Spill != l.want {
			t.Errorf("%v: Target %d, Spill %d", l, n.Target, n.Spill)
		}
	}
}

// G2: Spill may be the previous target, and one that is better than the target while it may not change.
func TestNextSpillOfBetter(t *testing.T) {
	p := plus(settledPlan(), func(p *api.Plan) { p.Target, p.Spill, p.Up, p.Since, p.Stamp = 0, -1, 1, 200, 200 })
	want := plus(p, func(p *api.Plan) { p.Epoch, p.Stamp, p.Up, p.Spill = 10, 209, 7, 1 })
	checkNext(t, usual(), p, 7, 209, want, true)
	want = api.Plan{Epoch: 10, Target: 1, Prev: 0, Spill: 0, Percent: 20, Stamp: 210, Since: 210, Ramped: 210, Up: 3, Pen: []int{0, 0, 0}, Changes: []int64{100, 210}}
	checkNext(t, usual(), p, 3, 210, want, true)
}

// G2: one of Target, Percent, Up, Sup and Spill alone is enough for a next plan.
func TestNextDiffersInOne(t *testing.T) {
	p := settledPlan()
	same := plus(p, func(p *api.Plan) { p.Epoch, p.Stamp = 10, 206 })
	for _, l := range []struct {
		name         string
		before, want api.Plan
		up           uint64
	}{
		{"Percent", plus(p, func(p *api.Plan) { p.Percent = 60 }), plus(same, func(p *api.Plan) { p.Ramped = 206 }), 7},
		{"Up", plus(p, func(p *api.Plan) { p.Up = 6 }), same, 7},
		{"Spill", plus(p, func(p *api.Plan) { p.Spill = 0 }), same, 7},
		{"Spill of none", plus(p, func(p *api.Plan) { p.Spill = -1 }), same, 7},
		{"Spill of the target", plus(p, func(p *api.Plan) { p.Spill = 1 }), same, 7},
		{"Sup", plus(p, func(p *api.Plan) { p.Up, p.Sup, p.Spill = 6, 1, 2 }), plus(same, func(p *api.Plan) { p.Up = 6 }), 6},
	} {
		if n := next(t, usual(), l.before, l.up, 206); !alike(n, l.want) {
			t.Errorf("%s: %+v, want %+v", l.name, n, l.want)
		}
	}
}

// G2: with an equal Percent, Up, Sup and Spill, another Target is enough.
func TestNextDiffersInTarget(t *testing.T) {
	p := api.Plan{Epoch: 9, Target: 0, Prev: 2, Spill: -1, Percent: 100, Stamp: 200, Since: 200, Ramped: 200, Up: 2, Pen: []int{0, 0, 0}, Changes: []int64{150}}
	want := api.Plan{Epoch: 10, Target: 1, Prev: 0, Spill: -1, Percent: 100, Stamp: 200, Since: 200, Ramped: 200, Up: 2, Pen: []int{0, 0, 0}, Changes: []int64{150, 200}}
	checkNext(t, usual(), p, 2, 200, want, true)
}

// G2: there is none where all five stay, though Stamp, Pen or Ramped would not.
func TestNextNone(t *testing.T) {
	p := settledPlan()
	for _, now := range []int64{math.MinInt64, -1, 0, 199, 200, 201, 300, maxTime, math.MaxInt64} {
		checkNone(t, usual(), p, 7, now)
		checkNone(t, usual(), plus(p, func(p *api.Plan) { p.Pen = []int{600, 1400, 3} }), 7, now)
		checkNone(t, usual(), plus(p, func(p *api.Plan) { p.Prev = 2 }), 7, now)
	}
	// All traffic is at the target, long since.
	checkNone(t, usual(), plus(p, func(p *api.Plan) { p.Ramped = 0 }), 7, 1000)
	// A change back whose time has not come.
	checkNone(t, usual(), plus(p, func(p *api.Plan) { p.Target, p.Spill, p.Since = 0, 1, 195 }), 7, 204)
	// A target that is not up, of which nothing else can take the place yet.
	checkNone(t, usual(), plus(p, func(p *api.Plan) { p.Up, p.Spill, p.Changes = 5, 2, []int64{199} }), 5, 201)
}

// G2, for all small plans of two targets, of one tier, and of two.
func TestNextOfSmall(t *testing.T) {
	c := withTiers(usual(), 0, 0)
	c.Dwell, c.D, c.W, c.B, c.StepTime, c.Half = 2, 1, 3, 2, 2, 1
	c.Hit, c.Suppress, c.Reuse = 2, 4, 1
	lists := [][]int64{nil, {4}, {5}, {6}, {2, 4}, {3, 5}, {5, 5}}
	for _, tiers := range [][]int{{0, 0}, {0, 1}, {1, 0}} {
		c.Tiers = tiers
		for mask := range uint64(64) {
			for target := -1; target < 2; target++ {
				for _, percent := range []int{40, 80, 100} {
					for _, changes := range lists {
						for pen := range 9 {
							p := api.Plan{Target: target, Prev: 0, Spill: 1, Percent: percent, Stamp: 5, Since: 4, Ramped: 4, Up: mask & 3, Sup: mask >> 2 & 3, Pen: []int{2, pen}, Changes: changes}
							for now := int64(4); now < 9; now++ {
								checkWords(t, c, p, mask>>4, now)
							}
						}
					}
				}
			}
		}
	}
}

// G2, for all of three targets: which are up, were up, and were left out, and which is the target.
func TestNextOfMasks(t *testing.T) {
	for _, tiers := range [][]int{{0, 0, 0}, {0, 1, 2}, {2, 1, 0}, {1, 0, 1}, {1, 1, 0}, {0, 1, 0}} {
		c := withTiers(usual(), tiers...)
		for mask := range uint64(512) {
			for target := -1; target < 3; target++ {
				for spill := -1; spill < 3; spill++ {
					p := api.Plan{Target: target, Prev: -1, Spill: spill, Percent: 60, Stamp: 100, Since: 90, Ramped: 96, Up: mask & 7, Sup: mask >> 3 & 7, Pen: []int{600, 800, 1500}, Changes: []int64{90}}
					for _, now := range []int64{99, 100, 101, 130, 200} {
						checkWords(t, c, p, mask>>6, now)
					}
				}
			}
		}
	}
}

// G2, for any.
func TestNextOfAny(t *testing.T) {
	changes, others, nothing := 0, 0, 0
	for seed := range int64(40000) {
		r := rand.New(rand.NewSource(seed))
		c := livelyConfig(r)
		if r.Intn(6) == 0 {
			c = someConfig(r)
		}
		now := []int64{0, 50, 1000, 1 << 33, maxTime - 20}[r.Intn(5)] + r.Int63n(30)
		if r.Intn(10) == 0 {
			now = someNumber(r, -maxTime, 2*maxTime)
		}
		p, up := somePlan(r, c, now), r.Uint64()
		// What is up stays, so that there is less and less to tell.
		for range 3 {
			checkWords(t, c, p, up, now)
			n, is := policy.Next(c, p, up, now)
			switch {
			case !is:
				nothing++
			case n.Target != p.Target:
				changes++
			default:
				others++
			}
			if is {
				p = n
			}
			now = min(now, maxTime) + r.Int63n(6)
		}
	}
	if changes < 10000 || others < 10000 || nothing < 10000 {
		t.Errorf("%d changes, %d others, %d times nothing", changes, others, nothing)
	}
}

// G2, for any number of fields that are at their bounds or beyond, whether it is refused or not.
func TestNextOfAnyBounds(t *testing.T) {
	refused := 0
	for seed := range int64(40000) {
		r := rand.New(rand.NewSource(seed))
		c := livelyConfig(r)
		p := somePlan(r, c, 1000)
		for range 1 + r.Intn(2) {
			switch r.Intn(8) {
			case 0:
				p.Epoch = []int64{-1, 0, endEpoch - 1, endEpoch, math.MaxInt64}[r.Intn(5)]
			case 1:
				p.Target = -2 + r.Intn(20)
			case 2:
				p.Prev = -2 + r.Intn(20)
			case 3:
				p.Spill = -2 + r.Intn(20)
			case 4:
				p.Percent = []int{-1, 0, 100, 101}[r.Intn(4)]
			case 5:
				p.Up |= 1 << r.Intn(20)
			case 6:
				p.Pen = append(p.Pen, 5)[:len(p.Pen)+r.Intn(2)]
			case 7:
				p.Changes = append(p.Changes, slices.Repeat([]int64{maxTime}, r.Intn(4))...)
			}
		}
		if !fitting(c, p) {
			refused++
		}
		checkWords(t, c, p, r.Uint64(), 990+r.Int63n(40))
	}
	if refused < 10000 || refused > 35000 {
		t.Errorf("%d do not fit", refused)
	}
}
