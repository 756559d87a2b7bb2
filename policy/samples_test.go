package policy_test

import (
	"math"
	"math/rand"
	"reflect"
	"slices"
	"testing"

	"locum/api"
	"locum/decay"
	"locum/policy"
)

const (
	maxTime  = api.MaxTime
	maxPen   = api.MaxPen
	endEpoch = 4611686018427387904 // 2^62
)

// field is a field of a config that is not a list, with its bounds as the document has them.
type field struct {
	name        string
	least, most int64
}

// fields are all of them but Reuse, whose greatest value is that of Suppress less one.
var fields = []field{
	{"F", 0, 3},
	{"Deciders", 1, 4}, {"Routers", 1, 4},
	{"Targets", 1, 16},
	{"Observers", 1, 7},
	{"Every", 1, 1 << 20}, {"Wait", 1, 1 << 20}, {"Fresh", 1, 1 << 20}, {"L", 1, 1 << 20},
	{"Dwell", 1, 1 << 20}, {"D", 1, 1 << 20}, {"W", 1, 1 << 20}, {"Half", 1, 1 << 20},
	{"StepTime", 1, 1 << 20}, {"S", 1, 1 << 20}, {"Span", 1, 1 << 20}, {"Retry", 1, 1 << 20},
	{"M", 0, 1 << 20},
	{"Rise", 1, 100}, {"Fall", 1, 100},
	{"B", 1, 8},
	{"Hit", 0, 1000000},
	{"Suppress", 1, 1000000},
	{"First", 1, 100}, {"Step", 1, 100},
	{"Cap", 1, 1000}, {"Room", 1, 64}, {"Tries", 1, 20},
}

func (f field) of(c api.Config) int64 {
	return reflect.ValueOf(c).FieldByName(f.name).Int()
}

// set returns c with another value of the field, and with lists and a Reuse that suit it where there are such.
func (f field) set(c api.Config, n int64) api.Config {
	reflect.ValueOf(&c).Elem().FieldByName(f.name).SetInt(n)
	switch f.name {
	case "Targets":
		c.Tiers = make([]int, max(min(n, 17), 0))
	case "Suppress":
		c.Reuse = 0
	}
	return c
}

// good are values that the field may have: its bounds, those next to them, and some between.
func (f field) good() []int64 {
	l := []int64{f.least, min(f.least+1, f.most), f.least + (f.most-f.least)/2, max(f.most-1, f.least), f.most}
	if f.most <= 100 {
		for n := f.least; n <= f.most; n++ {
			l = append(l, n)
		}
	}
	return l
}

// bad are values that it may not have: those next to its bounds, far ones, and those that are right but for higher bits.
func (f field) bad() []int64 {
	l := []int64{
		f.least - 1, f.least - 2, f.most + 1, f.most + 2, 2*f.most + 1, -f.most - 1, -1, -1 << 20, -1 << 31, -1 << 32,
		1<<20 + 1, 1 << 31, 1<<32 + f.least, 1<<32 + f.most, 1 << 40, 1<<40 + f.most, 1 << 62, math.MinInt64 + f.least, math.MinInt64 + f.most,
		math.MinInt64, math.MinInt64 + 1, math.MaxInt64, math.MaxInt64 - 1,
	}
	return slices.DeleteFunc(l, func(n int64) bool { return n >= f.least && n <= f.most })
}

// valid tells by the document's words whether a config is valid.
func valid(c api.Config) bool {
	for _, f := range fields {
		if n := f.of(c); n < f.least || n > f.most {
			return false
		}
	}
	for _, tier := range c.Tiers {
		if tier < 0 || tier > 15 {
			return false
		}
	}
	return len(c.Tiers) == c.Targets && c.Reuse >= 0 && c.Reuse < c.Suppress
}

// usual is a config like that of the shared tests, with three targets, of which the last two have the same tier.
func usual() api.Config {
	return api.Config{
		F: 1, Deciders: 2, Targets: 3, Routers: 1, Observers: 3, Tiers: []int{1, 0, 0},
		Every: 5, Wait: 3, Rise: 2, Fall: 2, Fresh: 20, L: 20, M: 5,
		Dwell: 10, D: 3, W: 50, B: 3,
		Hit: 1000, Suppress: 1500, Reuse: 700, Half: 30,
		First: 20, Step: 40, StepTime: 5,
		S: 10, Cap: 2, Span: 10, Room: 4, Tries: 3, Retry: 5,
	}
}

// least and most have all fields at their bounds.
func least() api.Config {
	c := api.Config{}
	for _, f := range fields {
		c = f.set(c, f.least)
	}
	return c
}

func most() api.Config {
	c := api.Config{}
	for _, f := range fields {
		c = f.set(c, f.most)
	}
	c.Tiers, c.Reuse = slices.Repeat([]int{15}, 16), c.Suppress-1
	return c
}

// bases are valid configs, for one field of them to be changed.
func bases() []api.Config {
	return []api.Config{usual(), least(), most(), withTiers(usual(), 3, 1, 4, 1, 5, 9, 2, 6, 5, 3)}
}

// withTiers is a config with other targets, of these tiers.
func withTiers(c api.Config, tiers ...int) api.Config {
	c.Targets, c.Tiers = len(tiers), tiers
	return c
}

// spoilt are configs that are not valid, each for one reason.
func spoilt() []api.Config {
	l := []api.Config{{}}
	for _, c := range bases() {
		for _, f := range fields {
			for _, n := range f.bad() {
				l = append(l, f.set(c, n))
			}
		}
		l = append(l, spoiltTiers(c)...)
		for _, n := range []int{-1, -2, math.MinInt, c.Suppress, c.Suppress + 1, maxPen, math.MaxInt} {
			wrong := c
			wrong.Reuse = n
			l = append(l, wrong)
		}
	}
	return l
}

// spoiltTiers are the config with Tiers that are too many, too few, or out of bounds.
func spoiltTiers(c api.Config) []api.Config {
	var l []api.Config
	with := func(tiers []int) {
		wrong := c
		wrong.Tiers = tiers
		l = append(l, wrong)
	}
	with(nil)
	with(slices.Clone(c.Tiers[1:]))
	with(c.Tiers[:c.Targets-1])
	with(append(slices.Clone(c.Tiers), 0))
	with(append(slices.Clone(c.Tiers), 15))
	with(slices.Concat(c.Tiers, c.Tiers))
	for at := range c.Tiers {
		for _, tier := range []int{-1, -2, math.MinInt, 16, 17, 1 << 32, math.MaxInt} {
			tiers := slices.Clone(c.Tiers)
			tiers[at] = tier
			with(tiers)
		}
	}
	return l
}

// all are the lowest bits, of so many targets.
func all(size int) uint64 {
	up := uint64(0)
	for range size {
		up = 2*up + 1
	}
	return up
}

// fitting tells by the document's words whether a plan fits a valid config.
func fitting(c api.Config, p api.Plan) bool {
	for _, n := range []int{p.Target, p.Prev, p.Spill} {
		if n < -1 || n > 15 || n >= c.Targets {
			return false
		}
	}
	for _, n := range append([]int64{p.Stamp, p.Since, p.Ramped}, p.Changes...) {
		if n < 0 || n > maxTime {
			return false
		}
	}
	for _, n := range p.Pen {
		if n < 0 || n > maxPen {
			return false
		}
	}
	for i := 1; i < len(p.Changes); i++ {
		if p.Changes[i] < p.Changes[i-1] {
			return false
		}
	}
	return p.Epoch >= 0 && p.Percent >= 0 && p.Percent <= 100 && p.Up <= all(c.Targets) && p.Sup <= all(c.Targets) &&
		len(p.Pen) == c.Targets && len(p.Changes) <= c.B
}

// some are some of 16 targets.
type some [16]bool

// bestOf is the best of some targets by the document's words, -1 without any.
func bestOf(c api.Config, l some) int {
	for tier := range 16 {
		for target, is := range l {
			if is && c.Tiers[target] == tier {
				return target
			}
		}
	}
	return -1
}

// settled tells by the document's words whether D and W permit a change.
func settled(c api.Config, changes []int64, t int64) bool {
	if len(changes) == 0 {
		return true
	}
	last := changes[len(changes)-1]
	return t >= last+c.D && (len(changes) < c.B || t > changes[len(changes)-c.B]+c.W)
}

// weighed has Pen, Up and Sup of the next plan by the document's words, and which targets are up, and good.
func weighed(c api.Config, p api.Plan, up uint64, t int64) (n api.Plan, isUp, good some) {
	n = api.Plan{Epoch: p.Epoch + 1, Stamp: t}
	for target := range c.Targets {
		one := uint64(1) << target
		isUp[target] = up&one != 0
		pen, _ := decay.Decay(p.Pen[target], t-p.Stamp, c.Half)
		if p.Up&one != 0 && !isUp[target] {
			pen = decay.Hit(pen, c.Hit)
		}
		sup := decay.Sup(p.Sup&one != 0, pen, c.Suppress, c.Reuse)
		n.Pen = append(n.Pen, pen)
		if isUp[target] {
			n.Up += one
		}
		if sup {
			n.Sup += one
		}
		good[target] = isUp[target] && !sup
	}
	return n, isUp, good
}

// followed is G2 by the document's words.
func followed(c api.Config, p api.Plan, up uint64, now int64) (api.Plan, bool) {
	if !valid(c) || !fitting(c, p) || p.Epoch >= endEpoch {
		return api.Plan{}, false
	}
	t := now
	if t > maxTime {
		t = maxTime
	}
	if t < p.Stamp {
		t = p.Stamp
	}
	n, isUp, good := weighed(c, p, up, t)
	to := bestOf(c, good)
	if to < 0 {
		to = bestOf(c, isUp)
	}
	if to < 0 {
		to = p.Target
	}
	must := p.Target < 0 || !good[p.Target]
	if to != p.Target && settled(c, p.Changes, t) && (must || t >= p.Since+c.Dwell) {
		n.Target, n.Prev, n.Percent, n.Since, n.Ramped = to, p.Target, c.First, t, t
		if must {
			n.Percent = 100
		}
		n.Changes = append(slices.Clone(p.Changes), t)
		if len(n.Changes) > c.B {
			n.Changes = n.Changes[1:]
		}
	} else {
		n.Target, n.Prev, n.Percent, n.Since, n.Ramped, n.Changes = p.Target, p.Prev, p.Percent, p.Since, p.Ramped, slices.Clone(p.Changes)
		if p.Percent < 100 && t >= p.Ramped+c.StepTime {
			n.Percent, n.Ramped = p.Percent+c.Step, t
			if n.Percent > 100 {
				n.Percent = 100
			}
		}
	}
	if n.Target >= 0 {
		good[n.Target] = false
	}
	n.Spill = bestOf(c, good)
	if n.Target == p.Target && n.Percent == p.Percent && n.Up == p.Up && n.Sup == p.Sup && n.Spill == p.Spill {
		return api.Plan{}, false
	}
	return n, true
}

// alike reports whether two plans have the same fields; an empty list may be nil or not.
func alike(a, b api.Plan) bool {
	if !slices.Equal(a.Pen, b.Pen) || !slices.Equal(a.Changes, b.Changes) {
		return false
	}
	a.Pen, a.Changes, b.Pen, b.Changes = nil, nil, nil, nil
	return reflect.DeepEqual(a, b)
}

func checkNext(t *testing.T, c api.Config, p api.Plan, up uint64, now int64, want api.Plan, is bool) {
	t.Helper()
	if got, found := policy.Next(c, p, up, now); found != is || !alike(got, want) {
		t.Errorf("Next(%+v,\n %+v,\n %#x, %d) =\n %+v, %v, want\n %+v, %v", c, p, up, now, got, found, want, is)
	}
}

// checkWords holds Next against the document's words.
func checkWords(t *testing.T, c api.Config, p api.Plan, up uint64, now int64) {
	t.Helper()
	want, is := followed(c, p, up, now)
	checkNext(t, c, p, up, now, want, is)
}

// checkNone holds that Next returns nothing.
func checkNone(t *testing.T, c api.Config, p api.Plan, up uint64, now int64) {
	t.Helper()
	checkNext(t, c, p, up, now, api.Plan{}, false)
}

// next is what Next returns, which must be there.
func next(t *testing.T, c api.Config, p api.Plan, up uint64, now int64) api.Plan {
	t.Helper()
	n, is := policy.Next(c, p, up, now)
	if !is {
		t.Fatalf("Next(%+v,\n %+v,\n %#x, %d): nothing", c, p, up, now)
	}
	return n
}

// someNumber is one of a range, often one of its ends.
func someNumber(r *rand.Rand, least, most int64) int64 {
	switch r.Intn(6) {
	case 0:
		return least
	case 1:
		return most
	default:
		return least + r.Int63n(most-least+1)
	}
}

// someConfig is valid, with each field anywhere between its bounds.
func someConfig(r *rand.Rand) api.Config {
	c := api.Config{}
	for _, f := range fields {
		c = f.set(c, someNumber(r, f.least, f.most))
	}
	c.Reuse = int(someNumber(r, 0, int64(c.Suppress-1)))
	for target := range c.Tiers {
		c.Tiers[target] = r.Intn(1 + r.Intn(16))
	}
	return c
}

// livelyConfig is valid, with times and penalties for which much happens within a hundred ticks.
func livelyConfig(r *rand.Rand) api.Config {
	c := someConfig(r)
	if r.Intn(8) > 0 {
		c = withTiers(c, make([]int, 1+r.Intn(5))...)
		for target := range c.Tiers {
			c.Tiers[target] = r.Intn(3)
		}
	}
	c.Dwell, c.D, c.W, c.B = 1+r.Int63n(20), 1+r.Int63n(8), 1+r.Int63n(60), 1+r.Intn(8)
	c.Hit, c.Suppress, c.Half = r.Intn(1500), 1+r.Intn(4000), 1+r.Int63n(40)
	c.Reuse = r.Intn(c.Suppress)
	c.First, c.Step, c.StepTime = 1+r.Intn(100), 1+r.Intn(60), 1+r.Int63n(10)
	return c
}

// somePlan fits a config; its times are near a time, some of them later, and some at the bounds.
func somePlan(r *rand.Rand, c api.Config, near int64) api.Plan {
	time := func() int64 {
		if r.Intn(10) == 0 {
			return someNumber(r, 0, maxTime)
		}
		return max(min(near-60+r.Int63n(70), maxTime), 0)
	}
	target := func() int { return r.Intn(c.Targets+1) - 1 }
	p := api.Plan{
		Epoch: someNumber(r, 0, endEpoch-1), Target: target(), Prev: target(), Spill: target(),
		Percent: int(someNumber(r, 0, 100)), Stamp: time(), Since: time(), Ramped: time(),
		Up: r.Uint64() & all(c.Targets), Sup: r.Uint64() & r.Uint64() & all(c.Targets),
	}
	for range c.Targets {
		p.Pen = append(p.Pen, someNear(r, c.Reuse, c.Suppress))
	}
	for range r.Intn(c.B + 1) {
		p.Changes = append(p.Changes, time())
	}
	slices.Sort(p.Changes)
	return p
}

// someNear is a penalty, mostly near one of two.
func someNear(r *rand.Rand, reuse, suppress int) int {
	switch r.Intn(5) {
	case 0:
		return int(someNumber(r, 0, maxPen))
	case 1:
		return 0
	case 2:
		return max(reuse-1, 0) + r.Intn(2)
	case 3:
		return suppress - r.Intn(2)
	default:
		return r.Intn(min(2*suppress, maxPen) + 1)
	}
}
