package proposer_test

import (
	"math"
	"math/bits"
	"math/rand"
	"reflect"
	"testing"

	"locum/api"
	"locum/proposer"
)

// Promise P16.1: O1 to O3, one by one.

// O1: Start has the epoch, the ballot, phase 1, and the own plan with that epoch; all else is zero.
func TestStart(t *testing.T) {
	for _, e := range numbers() {
		for _, b := range numbers() {
			for _, own := range []api.Plan{{}, planOf(e, 3), planOf(e+1, 4), planOf(0, 5), oddPlan(), {Epoch: math.MaxInt64, Pen: []int{}, Changes: []int64{}}} {
				want := api.Prop{Epoch: e, Ballot: b, Phase: 1, Own: copied(own)}
				want.Own.Epoch = e
				if got := proposer.Start(e, b, own); !same(got, want) {
					t.Errorf("Start(%d, %d, %v) = %s", e, b, own, tell(got))
				}
			}
		}
	}
}

// P3: the plan that Start is given stays as it was.
func TestStartLeavesItsPlan(t *testing.T) {
	own := planOf(3, 9)
	own.Pen = append(make([]int, 0, 9), 1, 2)
	before := copied(own)
	p := proposer.Start(8, 16, own)
	if !reflect.DeepEqual(own, before) || own.Pen[:3][2] != 0 || p.Own.Epoch != 8 {
		t.Errorf("the plan became %v, was %v", own, before)
	}
}

// O1: Most is so for F + 1 acceptors and more, for each mask of the lowest bits; bits above 2 F count nothing.
func TestMost(t *testing.T) {
	for _, f := range someFs() {
		for low := range uint64(1 << 10) {
			for _, high := range []uint64{0, 1 << 10, 1 << 31, 1 << 32, 1 << 62, 1 << 63, math.MaxUint64 - 1023} {
				mask := low | high
				if got := proposer.Most(withF(f), mask); got != most(withF(f), mask) {
					t.Errorf("F %d: Most(%b) = %v", f, mask, got)
				}
			}
		}
	}
}

// O1: the numbers written out: how many bits each F needs, and which ones count.
func TestMostAtBounds(t *testing.T) {
	for _, x := range []struct {
		f, needs, acceptors int
	}{{math.MinInt, 1, 1}, {-2, 1, 1}, {-1, 1, 1}, {0, 1, 1}, {1, 2, 3}, {2, 3, 5}, {3, 4, 7}, {4, 4, 7}, {9, 4, 7}, {math.MaxInt, 4, 7}} {
		c := withF(x.f)
		for mask := range uint64(1 << x.acceptors) {
			want := bits.OnesCount64(mask) >= x.needs
			others := uint64(math.MaxUint64) << x.acceptors
			if proposer.Most(c, mask) != want || proposer.Most(c, mask|others) != want || proposer.Most(c, mask|1<<x.acceptors) != want {
				t.Errorf("F %d: Most(%b) is not %v", x.f, mask, want)
			}
		}
		if !proposer.Most(c, math.MaxUint64) || proposer.Most(c, 0) {
			t.Errorf("F %d: all bits, or none", x.f)
		}
	}
}

// O1: of config only F counts.
func TestOnlyFCounts(t *testing.T) {
	c := api.Config{F: 1, Deciders: 4, Targets: 16, Routers: 3, Observers: 7, B: 3, Cap: 9}
	if proposer.Most(c, 1) || !proposer.Most(c, 3) || proposer.Most(c, 1|8|16) {
		t.Error("Most of a whole config")
	}
	if p := proposer.Promise(fresh(), c, promised(3)); !same(p, fresh()) {
		t.Errorf("a promise of a node that is no acceptor: %s", tell(p))
	}
}

// O2, O3: in each phase, of each sender, for each F.
func TestSenders(t *testing.T) {
	for _, f := range someFs() {
		for _, phase := range []int{math.MinInt, -1, 0, 1, 2, 3, 4, 5, 257, math.MaxInt} {
			for _, from := range nodes() {
				for _, p := range []api.Prop{fresh(), full(), asking()} {
					p.Phase = phase
					checkBoth(t, p, withF(f), promised(from))
					checkBoth(t, p, withF(f), promisedWith(from, 17, planOf(epoch, 5)))
					checkBoth(t, p, withF(f), taken(from))
				}
			}
		}
	}
}

// O2: a proposal that is not in phase 1 stays as it is, whatever is promised.
func TestPromiseNeedsPhase1(t *testing.T) {
	for _, phase := range []int{math.MinInt, -1, 0, 2, 3, 4, math.MaxInt} {
		for _, m := range []api.Msg{promised(0), promised(1), promisedWith(2, 99, planOf(epoch, 5))} {
			p := with(full(), func(p *api.Prop) { p.Phase = phase })
			check(t, proposer.Promise, p, 1, m, p)
		}
	}
}

// O3: a proposal that is not in phase 2 stays as it is, whatever is accepted.
func TestAcceptedNeedsPhase2(t *testing.T) {
	for _, phase := range []int{math.MinInt, -1, 0, 1, 3, 4, math.MaxInt} {
		for from := range 3 {
			p := with(asking(), func(p *api.Prop) { p.Phase = phase })
			check(t, proposer.Accepted, p, 1, taken(from), p)
		}
	}
}

// O2, O3: a message of any other kind, another epoch or another ballot leaves the proposal as it is.
func TestOtherAnswers(t *testing.T) {
	for _, x := range []struct {
		do    step
		p     api.Prop
		m     api.Msg
		right api.MsgKind
	}{
		{proposer.Promise, fresh(), promised(0), api.MsgPromise},
		{proposer.Promise, full(), promisedWith(0, 17, planOf(epoch, 5)), api.MsgPromise},
		{proposer.Accepted, asking(), taken(0), api.MsgAccepted},
		{proposer.Accepted, asking(), with(taken(2), func(m *api.Msg) { m.HasPlan, m.Plan = true, planOf(epoch, 2) }), api.MsgAccepted},
	} {
		if same(x.do(x.p, withF(1), x.m), x.p) {
			t.Errorf("%s changes nothing", tellMsg(x.m))
		}
		for kind := api.MsgKind(-2); kind <= 300; kind++ {
			if kind != x.right {
				check(t, x.do, x.p, 1, with(x.m, func(m *api.Msg) { m.Kind = kind }), x.p)
			}
		}
		for _, n := range append(numbers(), epoch-1, epoch+1, epoch+1<<32, -epoch, ballot) {
			check(t, x.do, x.p, 1, with(x.m, func(m *api.Msg) { m.Epoch = n }), x.p)
		}
		for _, n := range append(numbers(), ballot-1, ballot+1, ballot+1<<32, -ballot, epoch) {
			check(t, x.do, x.p, 1, with(x.m, func(m *api.Msg) { m.Ballot = n }), x.p)
		}
		// The plan moves along with the epoch: it is the message's own epoch that counts.
		for _, n := range []int64{epoch - 1, epoch + 1} {
			check(t, x.do, x.p, 1, with(x.m, func(m *api.Msg) { m.Epoch, m.Plan.Epoch = n, n }), x.p)
		}
	}
}

// O2, O3: a From next to the acceptors' nodes leaves the proposal as it is, the least and the greatest of them don't.
func TestFromAtBounds(t *testing.T) {
	for _, x := range []struct{ f, last int }{{-1, 0}, {0, 0}, {1, 2}, {2, 4}, {3, 6}, {4, 6}, {math.MaxInt, 6}, {math.MinInt, 0}} {
		for _, from := range []int{-1, x.last + 1, x.last + 2, 64 + x.last, math.MinInt, math.MaxInt} {
			check(t, proposer.Promise, fresh(), x.f, promised(from), fresh())
			check(t, proposer.Promise, fresh(), x.f, promisedWith(from, 5, planOf(epoch, 5)), fresh())
			check(t, proposer.Accepted, asking(), x.f, taken(from), asking())
		}
		for _, from := range []int{0, x.last} {
			if got := proposer.Promise(fresh(), withF(x.f), promised(from)); got.Promises != 1<<from {
				t.Errorf("F %d: a promise of %d: %s", x.f, from, tell(got))
			}
			if got := proposer.Accepted(asking(), withF(x.f), taken(from)); got.Accepts != 1<<from {
				t.Errorf("F %d: accepted by %d: %s", x.f, from, tell(got))
			}
		}
	}
}

// O2: a plan of another epoch leaves the proposal as it is; one that the message doesn't have counts nothing.
func TestPromiseWithAPlanOfAnotherEpoch(t *testing.T) {
	for _, n := range append(numbers(), epoch-1, epoch+1) {
		other := planOf(n, 5)
		for _, had := range []int64{-1, 0, 5, 99} {
			check(t, proposer.Promise, fresh(), 1, promisedWith(0, had, other), fresh())
			p := with(fresh(), func(p *api.Prop) { p.Promises = 2 })
			check(t, proposer.Promise, p, 1, promisedWith(0, had, other), p)
			without := with(promisedWith(0, had, other), func(m *api.Msg) { m.HasPlan = false })
			check(t, proposer.Promise, fresh(), 1, without, with(fresh(), func(p *api.Prop) { p.Promises = 1 }))
		}
	}
}

// O2: Best and Value become those of the message if it has a plan, and Accepted is greater than Best.
func TestPromiseBest(t *testing.T) {
	old, given := planOf(epoch, 2), planOf(epoch, 5)
	for _, best := range []int64{math.MinInt64, -2, -1, 0, 1, 16, 1 << 32, math.MaxInt64 - 1, math.MaxInt64} {
		for _, had := range []int64{math.MinInt64, best - 1, best, best + 1, best - 1<<32, best + 1<<32, 0, 1, math.MaxInt64} {
			p := with(fresh(), func(p *api.Prop) { p.Best, p.Value = best, old })
			want := with(p, func(p *api.Prop) { p.Promises = 4 })
			check(t, proposer.Promise, p, 1, with(promised(2), func(m *api.Msg) { m.Accepted = had }), want)
			check(t, proposer.Promise, p, 1, with(promised(2), func(m *api.Msg) { m.Accepted, m.Plan = had, given }), want)
			if had > best {
				want.Best, want.Value = had, given
			}
			check(t, proposer.Promise, p, 1, promisedWith(2, had, given), want)
		}
	}
}

// O2: an acceptor whose bit is set counts once, but what it tells counts again.
func TestPromiseAgain(t *testing.T) {
	p := with(fresh(), func(p *api.Prop) { p.Promises = 2 })
	check(t, proposer.Promise, p, 1, promised(1), p)
	check(t, proposer.Promise, p, 1, promisedWith(1, 5, planOf(epoch, 5)), with(p, func(p *api.Prop) { p.Best, p.Value = 5, planOf(epoch, 5) }))
	for range 9 {
		p = proposer.Promise(p, withF(1), promised(1))
	}
	check(t, proposer.Promise, p, 1, promised(2), with(p, func(p *api.Prop) { p.Promises, p.Phase, p.Value = 6, 2, p.Own }))
}

// O2: the promise that makes a majority has the proposal in phase 2, with the best plan, or its own one.
func TestPromiseOfAMajority(t *testing.T) {
	given := planOf(epoch, 5)
	for f := range 4 {
		for last := range 2*f + 1 {
			p := fresh()
			for from := 0; bits.OnesCount64(p.Promises) < f; from++ {
				if from != last {
					p.Promises |= 1 << from
				}
			}
			all := p.Promises | 1<<last
			check(t, proposer.Promise, p, f, promised(last), with(p, func(p *api.Prop) { p.Phase, p.Promises, p.Value = 2, all, p.Own }))
			check(t, proposer.Promise, p, f, promisedWith(last, 3, given), with(p, func(p *api.Prop) { p.Phase, p.Promises, p.Best, p.Value = 2, all, 3, given }))
			check(t, proposer.Promise, p, f, promisedWith(last, 0, given), with(p, func(p *api.Prop) { p.Phase, p.Promises, p.Value = 2, all, p.Own }))
			q := with(p, func(p *api.Prop) { p.Best, p.Value = 8, planOf(epoch, 2) })
			check(t, proposer.Promise, q, f, promised(last), with(q, func(p *api.Prop) { p.Phase, p.Promises = 2, all }))
			check(t, proposer.Promise, q, f, promisedWith(last, 8, given), with(q, func(p *api.Prop) { p.Phase, p.Promises = 2, all }))
			check(t, proposer.Promise, q, f, promisedWith(last, 9, given), with(q, func(p *api.Prop) { p.Phase, p.Promises, p.Best, p.Value = 2, all, 9, given }))
			// A Best below 0 is not 0.
			q = with(p, func(p *api.Prop) { p.Best, p.Value = -4, planOf(epoch, 2) })
			check(t, proposer.Promise, q, f, promised(last), with(q, func(p *api.Prop) { p.Phase, p.Promises = 2, all }))
			if f > 0 {
				less := with(p, func(p *api.Prop) { p.Promises &= p.Promises - 1 })
				check(t, proposer.Promise, less, f, promised(last), with(less, func(p *api.Prop) { p.Promises |= 1 << last }))
			}
		}
	}
}

// O2: behind a majority nothing more is counted, not even a better plan.
func TestPromiseBehindAMajority(t *testing.T) {
	p := proposer.Promise(proposer.Promise(fresh(), withF(1), promised(0)), withF(1), promised(1))
	check(t, proposer.Promise, p, 1, promised(2), p)
	check(t, proposer.Promise, p, 1, promisedWith(2, 99, planOf(epoch, 5)), p)
	check(t, proposer.Promise, p, 1, promisedWith(1, 99, planOf(epoch, 5)), p)
}

// O3: From's bit is set, once, and the answer that makes a majority has the proposal in phase 3.
func TestAccepted(t *testing.T) {
	for f := range 4 {
		for last := range 2*f + 1 {
			p := asking()
			for from := 2 * f; bits.OnesCount64(p.Accepts) < f; from-- {
				if from != last {
					p.Accepts |= 1 << from
					check(t, proposer.Accepted, p, f, taken(from), p)
				}
			}
			done := with(p, func(p *api.Prop) { p.Phase, p.Accepts = 3, p.Accepts|1<<last })
			check(t, proposer.Accepted, p, f, taken(last), done)
			check(t, proposer.Accepted, done, f, taken(0), done)
			if f > 0 {
				less := with(p, func(p *api.Prop) { p.Accepts &= p.Accepts - 1 })
				check(t, proposer.Accepted, less, f, taken(last), with(less, func(p *api.Prop) { p.Accepts |= 1 << last }))
			}
		}
	}
}

// O3: what a message has beside its kind, sender, epoch and ballot counts nothing.
func TestAcceptedWithMore(t *testing.T) {
	m := with(taken(0), func(m *api.Msg) { m.Accepted, m.HasPlan, m.Plan, m.Code = 99, true, planOf(epoch+1, 5), 7 })
	check(t, proposer.Accepted, asking(), 1, m, with(asking(), func(p *api.Prop) { p.Accepts = 1 }))
}

// O2, O3: bits of nodes that are no acceptors are kept, and count nothing.
func TestBitsOfOthers(t *testing.T) {
	others := uint64(math.MaxUint64 - 7)
	p := with(full(), func(p *api.Prop) { p.Promises, p.Accepts = others, others })
	q := proposer.Promise(p, withF(1), promised(0))
	if !same(q, with(p, func(p *api.Prop) { p.Promises = others | 1 })) {
		t.Errorf("one promise: %s", tell(q))
	}
	q.Phase = 2
	check(t, proposer.Accepted, q, 1, taken(2), with(q, func(p *api.Prop) { p.Accepts = others | 4 }))
}

// O2, O3: a proposal that has a majority already is in the next phase with the next answer.
func TestMajorityAlready(t *testing.T) {
	p := with(full(), func(p *api.Prop) { p.Promises, p.Best = 7, 0 })
	check(t, proposer.Promise, p, 1, promised(1), with(p, func(p *api.Prop) { p.Phase, p.Value = 2, p.Own }))
	p = with(asking(), func(p *api.Prop) { p.Accepts = 7 })
	check(t, proposer.Accepted, p, 1, taken(1), with(p, func(p *api.Prop) { p.Phase = 3 }))
}

// The examples of the chapter.
func TestExamples(t *testing.T) {
	own := planOf(0, 3)
	p := proposer.Start(epoch, ballot, own)
	for _, from := range []int{0, 1} {
		p = proposer.Promise(p, withF(1), promised(from))
	}
	own.Epoch = epoch
	want := api.Prop{Epoch: epoch, Ballot: ballot, Phase: 2, Own: own, Value: own, Promises: 3}
	if !same(p, want) {
		t.Errorf("two promises: %s", tell(p))
	}
	for _, from := range []int{0, 2} {
		p = proposer.Accepted(p, withF(1), taken(from))
	}
	want.Phase, want.Accepts = 3, 5
	if !same(p, want) {
		t.Errorf("accepted by two: %s", tell(p))
	}
}

// O2, O3: for any proposals and answers both do what the document's words say.
func TestAnyAnswer(t *testing.T) {
	r := rand.New(rand.NewSource(31))
	counted := 0
	for range 300000 {
		p := someProp(r)
		c, m := withF(r.Intn(6)-1), someAnswer(r, p)
		checkBoth(t, p, c, m)
		if !same(promiseWords(p, c, m), p) || !same(acceptedWords(p, c, m), p) {
			counted++
		}
	}
	if counted < 50000 {
		t.Errorf("only %d answers counted", counted)
	}
}

// P3: neither the lists of a proposal nor those of a message change, nor what is spare behind them.
func TestNothingHandedInChanges(t *testing.T) {
	r := rand.New(rand.NewSource(32))
	for range 2000 {
		p := someProp(r)
		m := someAnswer(r, p)
		p.Own.Pen, p.Value.Changes = append(make([]int, 0, 9), 5), append(make([]int64, 0, 9), 5)
		q, n := p, m
		q.Own, q.Value, n.Plan = copied(p.Own), copied(p.Value), copied(m.Plan)
		proposer.Promise(p, withF(1), m)
		proposer.Accepted(p, withF(1), m)
		if !reflect.DeepEqual(p, q) || !reflect.DeepEqual(m, n) || p.Own.Pen[:2][1] != 0 || p.Value.Changes[:2][1] != 0 {
			t.Fatalf("%s and %s became %s and %s", tell(q), tellMsg(n), tell(p), tellMsg(m))
		}
	}
}

// P3: two calls of the same say the same, whatever was called between.
func TestNothingIsKept(t *testing.T) {
	r := rand.New(rand.NewSource(33))
	for range 2000 {
		p := someProp(r)
		m := someAnswer(r, p)
		first := proposer.Promise(p, withF(1), m)
		proposer.Promise(someProp(r), withF(2), m)
		proposer.Start(3, 4, planOf(5, 6))
		check(t, proposer.Promise, p, 1, m, first)
	}
}
