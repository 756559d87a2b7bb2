package proposer_test

import (
	"fmt"
	"math"
	"math/rand"
	"testing"

	"locum/api"
	"locum/plan"
	"locum/proposer"
)

const (
	epoch  = 7 // of the proposals under test
	ballot = 1<<24 + 35
)

// withF is a config of which F alone counts.
func withF(f int) api.Config { return api.Config{F: f} }

// someFs are values of F in range and beyond.
func someFs() []int {
	return []int{math.MinInt, math.MinInt + 1, math.MinInt / 2, -4, -3, -2, -1, 0, 1, 2, 3, 4, 5, 31, 32, 63, 64, math.MaxInt / 2, math.MaxInt - 1, math.MaxInt}
}

// limited is F as the document limits it.
func limited(f int) int {
	if f < 0 {
		return 0
	}
	if f > 3 {
		return 3
	}
	return f
}

// nodes are the senders that matter: acceptors, their neighbours, and numbers that fewer bits take for an acceptor.
func nodes() []int {
	return []int{
		math.MinInt, math.MinInt + 1, -1 << 32, -256, -65, -64, -63, -3, -2, -1,
		0, 1, 2, 3, 4, 5, 6, 7, 8, 9, 10, 31, 32, 33, 62, 63, 64, 65, 128, 255, 256, 257, 1 << 32, 1<<32 + 1, math.MaxInt,
	}
}

// numbers are values of an int64 that matter: small ones, and the edges.
func numbers() []int64 {
	return []int64{math.MinInt64, math.MinInt64 + 1, -1 << 32, -2, -1, 0, 1, 2, 16, 35, 1 << 32, 1<<54 - 1, math.MaxInt64 - 1, math.MaxInt64}
}

// planOf is a plan of an epoch that no other variant has.
func planOf(epoch int64, variant int) api.Plan {
	return api.Plan{
		Epoch: epoch, Target: variant % 16, Prev: 1 - variant%2, Spill: -1, Percent: 20, Stamp: 5, Since: 4, Ramped: 3,
		Up: 3, Sup: 1, Pen: []int{variant, 7}, Changes: []int64{4, 5},
	}
}

// oddPlan is one that is far from valid, but a plan all the same.
func oddPlan() api.Plan {
	return api.Plan{
		Epoch: -3, Target: -9, Prev: 99, Spill: math.MinInt, Percent: 101, Stamp: -1, Since: math.MaxInt64, Ramped: math.MinInt64,
		Up: math.MaxUint64, Sup: 1 << 63, Pen: []int{-1, math.MaxInt}, Changes: []int64{9, 3},
	}
}

// full is a proposal with something in each field.
func full() api.Prop {
	return api.Prop{Epoch: epoch, Ballot: ballot, Phase: 1, Own: planOf(epoch, 1), Best: 16, Value: planOf(epoch, 2), Promises: 1 << 20, Accepts: 1 << 21}
}

// fresh is a proposal that has no answer yet.
func fresh() api.Prop {
	return api.Prop{Epoch: epoch, Ballot: ballot, Phase: 1, Own: planOf(epoch, 1)}
}

// asking is a proposal in phase 2, which nobody has accepted yet.
func asking() api.Prop {
	return api.Prop{Epoch: epoch, Ballot: ballot, Phase: 2, Own: planOf(epoch, 1), Best: 16, Value: planOf(epoch, 2), Promises: 3}
}

// with is a proposal, or a message, with some fields changed.
func with[T api.Prop | api.Msg](x T, change func(x *T)) T {
	change(&x)
	return x
}

// promised is an acceptor's promise, without a plan.
func promised(from int) api.Msg {
	return api.Msg{Kind: api.MsgPromise, From: from, To: 3, Epoch: epoch, Ballot: ballot}
}

// promisedWith is one with a plan that was accepted.
func promisedWith(from int, had int64, p api.Plan) api.Msg {
	return with(promised(from), func(m *api.Msg) { m.Accepted, m.HasPlan, m.Plan = had, true, p })
}

// taken is what an acceptor tells when it has accepted.
func taken(from int) api.Msg {
	return api.Msg{Kind: api.MsgAccepted, From: from, To: 3, Epoch: epoch, Ballot: ballot}
}

// same tells whether all fields of two proposals are equal.
func same(a, b api.Prop) bool {
	return a.Epoch == b.Epoch && a.Ballot == b.Ballot && a.Phase == b.Phase && plan.Same(a.Own, b.Own) &&
		a.Best == b.Best && plan.Same(a.Value, b.Value) && a.Promises == b.Promises && a.Accepts == b.Accepts
}

// copied is a plan whose lists are its own.
func copied(p api.Plan) api.Plan {
	p.Pen = append([]int(nil), p.Pen...)
	p.Changes = append([]int64(nil), p.Changes...)
	return p
}

func tell(p api.Prop) string {
	return fmt.Sprintf("{epoch %d, ballot %d, phase %d, own %v, best %d, value %v, promises %b, accepts %b}", p.Epoch, p.Ballot, p.Phase, p.Own, p.Best, p.Value, p.Promises, p.Accepts)
}

func tellMsg(m api.Msg) string {
	return fmt.Sprintf("{kind %d from %d, epoch %d, ballot %d, accepted %d, plan %v %v}", m.Kind, m.From, m.Epoch, m.Ballot, m.Accepted, m.HasPlan, m.Plan)
}

// step is Promise or Accepted.
type step func(p api.Prop, c api.Config, m api.Msg) api.Prop

// most is Most by the document's words.
func most(c api.Config, mask uint64) bool {
	f, set := limited(c.F), 0
	for i := 0; i <= 2*f; i++ {
		if mask&(1<<i) != 0 {
			set++
		}
	}
	return set >= f+1
}

// isAcceptor tells whether a node is one, by the document's words.
func isAcceptor(c api.Config, node int) bool { return 0 <= node && node <= 2*limited(c.F) }

// promiseWords is O2 by the document's words.
func promiseWords(p api.Prop, c api.Config, m api.Msg) api.Prop {
	if p.Phase != 1 {
		return p
	}
	if m.Kind != 5 || m.Epoch != p.Epoch || m.Ballot != p.Ballot {
		return p
	}
	if !isAcceptor(c, m.From) {
		return p
	}
	if m.HasPlan && m.Plan.Epoch != p.Epoch {
		return p
	}
	q := api.Prop{Epoch: p.Epoch, Ballot: p.Ballot, Phase: 1, Own: p.Own, Best: p.Best, Value: p.Value, Accepts: p.Accepts}
	q.Promises = p.Promises | uint64(1)<<uint(m.From)
	if m.HasPlan {
		if m.Accepted > p.Best {
			q.Best = m.Accepted
			q.Value = m.Plan
		}
	}
	if most(c, q.Promises) {
		q.Phase = 2
		if q.Best == 0 {
			q.Value = p.Own
		}
	}
	return q
}

// acceptedWords is O3 by the document's words.
func acceptedWords(p api.Prop, c api.Config, m api.Msg) api.Prop {
	if p.Phase != 2 {
		return p
	}
	if m.Kind != 8 || m.Epoch != p.Epoch || m.Ballot != p.Ballot {
		return p
	}
	if !isAcceptor(c, m.From) {
		return p
	}
	q := api.Prop{Epoch: p.Epoch, Ballot: p.Ballot, Phase: 2, Own: p.Own, Best: p.Best, Value: p.Value, Promises: p.Promises}
	q.Accepts = p.Accepts | uint64(1)<<uint(m.From)
	if most(c, q.Accepts) {
		q.Phase = 3
	}
	return q
}

// check holds what a step makes of a proposal.
func check(t *testing.T, do step, p api.Prop, f int, m api.Msg, want api.Prop) {
	t.Helper()
	if got := do(p, withF(f), m); !same(got, want) {
		t.Errorf("F %d: %s and %s:\n%s, want\n%s", f, tell(p), tellMsg(m), tell(got), tell(want))
	}
}

// checkBoth holds both steps against the document's words.
func checkBoth(t *testing.T, p api.Prop, c api.Config, m api.Msg) {
	t.Helper()
	check(t, proposer.Promise, p, c.F, m, promiseWords(p, c, m))
	check(t, proposer.Accepted, p, c.F, m, acceptedWords(p, c, m))
}

// someOf is one of a list.
func someOf[T any](r *rand.Rand, l ...T) T { return l[r.Intn(len(l))] }

// someProp is one in any phase, with any answers, mostly about to have a majority.
func someProp(r *rand.Rand) api.Prop {
	p := api.Prop{
		Epoch: r.Int63n(3), Ballot: r.Int63n(3), Phase: someOf(r, 1, 1, 1, 2, 2, 2, 0, 3, 4, -1),
		Own: planOf(r.Int63n(3), r.Intn(40)), Value: planOf(r.Int63n(3), r.Intn(40)),
		Best: someOf[int64](r, 0, 0, 0, 16, 17, -1, 1<<53), Promises: r.Uint64() & r.Uint64() & 127, Accepts: r.Uint64() & r.Uint64() & 127,
	}
	if r.Intn(4) == 0 {
		p.Promises |= r.Uint64() << 3
		p.Accepts |= r.Uint64() << 3
	}
	return p
}

// someAnswer is one that suits a proposal, more or less.
func someAnswer(r *rand.Rand, p api.Prop) api.Msg {
	m := api.Msg{
		Kind: api.MsgPromise, From: r.Intn(7), To: 3, Epoch: p.Epoch, Ballot: p.Ballot,
		Accepted: p.Best - 2 + r.Int63n(5), HasPlan: r.Intn(2) == 0, Plan: planOf(p.Epoch, r.Intn(40)),
		Nonce: r.Int63(), Time: r.Int63(), Up: r.Uint64(), Code: r.Intn(5), Session: []byte{1}, ID: []int64{1, 2, 3},
	}
	if p.Phase == 2 || r.Intn(9) == 0 {
		m.Kind = api.MsgAccepted
	}
	switch r.Intn(14) {
	case 0:
		m.Kind = api.MsgKind(r.Intn(21))
	case 1:
		m.Epoch = r.Int63n(4) - 1
	case 2:
		m.Ballot = r.Int63n(4) - 1
	case 3:
		m.Plan.Epoch = r.Int63n(4) - 1
	case 4:
		m.From = someOf(r, nodes()...)
	}
	return m
}
