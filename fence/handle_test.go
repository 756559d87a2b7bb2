package fence_test

import (
	"bytes"
	"fmt"
	"math"
	"slices"
	"testing"

	"locum/api"
	"locum/fence"
	"locum/msg"
	"locum/plan"
	"locum/policy"
)

// Promise P18.1: Handle.

// The chapter's examples.
func TestExamples(t *testing.T) {
	s := play(t, "unknown epoch", usual())
	s.says(write(1, 1), 0)
	s.says(write(1, 7), 0)
	s = ready(t, "sealed", usual(), 1, 5)
	s.says(seal(2), 6, sealed(seal(2)))
	s.says(write(1, 1), 6, refused(write(1, 1)))
	s.says(write(1, 1), 6, refused(write(1, 1)))
	s.has(2, nil, ids(write(1, 1)))
}

// question is a message that a busy target answers, and the record that it remembers ahead of that, if it does.
type question struct {
	name   string
	m      api.Msg
	answer api.Msg
	record []api.Msg
}

// questions have one of each kind of answer.
func questions() []question {
	one := func(r api.Msg) []api.Msg { return []api.Msg{r} }
	return []question{
		{"probe", probe(5), alive(probe(5)), nil},
		{"seal below", seal(3), sealed(seal(3)), nil},
		{"seal at the fence", seal(4), sealed(seal(4)), nil},
		{"seal", seal(5), sealed(seal(5)), one(fenceRecord(5))},
		{"written", write(3, 9), wrote(write(3, 9), 3), nil},
		{"closed", write(2, 9), refused(write(2, 9)), nil},
		{"write", write(7, 4), wrote(write(7, 4), 4), one(writeRecord(write(7, 4)))},
		{"write below", write(7, 3), refused(write(7, 3)), one(closeRecord(write(7, 3)))},
	}
}

// busyAt is when a busy target is asked.
const busyAt = 115

// All of them are answered so.
func TestQuestions(t *testing.T) {
	for _, q := range questions() {
		s := busy(t, q.name)
		s.says(q.m, busyAt, q.answer)
		s.stored(slices.Concat(busyRecords(), q.record)...)
	}
}

// untouched holds that an event changes nothing that a target ever shows.
func untouched(t *testing.T, name string, e event) {
	t.Helper()
	for _, row := range busyRows() {
		s := busy(t, name)
		if l, _ := e.to(s); len(l) != 0 {
			t.Errorf("%s: %v: %s, want no answer", name, e, shorts(l))
		}
		s.isBusy()
		goesLike(t, s, busy(t, name), row)
	}
}

// wrongs are variants of a message that are not right.
func wrongs(m api.Msg) []api.Msg {
	var l []api.Msg
	for _, change := range []func(m *api.Msg){
		func(m *api.Msg) { m.From = -1 },
		func(m *api.Msg) { m.From = api.MaxNode + 1 },
		func(m *api.Msg) { m.To = -1 },
		func(m *api.Msg) { m.To = api.MaxNode + 1 },
		func(m *api.Msg) { m.Up = 1 << 16 },
		func(m *api.Msg) { m.HasPlan, m.Plan = true, planOf(9); m.Plan.Percent = 101 },
		func(m *api.Msg) { m.HasPlan, m.Plan = true, planOf(9); m.Plan.Pen = []int{-1, 0, 0} },
		func(m *api.Msg) { m.HasPlan, m.Plan = false, planOf(9) },
		func(m *api.Msg) { m.ID = []int64{1, 2} },
		func(m *api.Msg) { m.ID = []int64{0, 1, 3, 0} },
		func(m *api.Msg) { m.ID = []int64{0} },
		func(m *api.Msg) { m.Session = make([]byte, api.MaxSession+1) },
		func(m *api.Msg) { m.Payload = make([]byte, api.MaxPayload+1) },
		func(m *api.Msg) { m.Kind += 1 << 8 },
		func(m *api.Msg) { m.Kind = -m.Kind },
		func(m *api.Msg) { m.Code = -1 },
		func(m *api.Msg) { m.Code = api.MaxCode + 1 },
	} {
		l = append(l, with(m, change))
	}
	return l
}

// quiet are messages that change a busy target, and have no answer.
func quiet() []api.Msg { return []api.Msg{decision(planOf(5)), grant(2, 4, 114)} }

// F3: a message that is not right.
func TestHandleWrong(t *testing.T) {
	all := quiet()
	for _, q := range questions() {
		all = append(all, q.m)
	}
	for _, m := range all {
		for i, w := range wrongs(m) {
			if msg.Right(w) {
				t.Fatalf("%s, %d: %+v is right", short(m), i, w)
			}
			untouched(t, fmt.Sprintf("wrong %d", i), gets(w, busyAt))
		}
	}
}

// F3: a time that there can't be, and those that there can.
func TestHandleTimes(t *testing.T) {
	all := quiet()
	for _, q := range questions() {
		all = append(all, q.m)
	}
	for _, now := range []int64{-1, -2, math.MinInt64, math.MinInt64 + 1<<21, maxTime + 1, maxTime + 2, 1 << 60, math.MaxInt64} {
		for _, m := range all {
			untouched(t, "time", gets(m, now))
		}
	}
	for _, now := range []int64{0, 1, 2, maxTime - 1, maxTime} {
		s := play(t, "time", usual())
		s.says(probe(3), now, alive(probe(3)))
		s.says(seal(2), now, sealed(seal(2)))
		s.says(write(1, 0), now, refused(write(1, 0)))
		s.says(decision(planOf(2)), now)
		s.knows(planOf(2))
		s.leases(2, now)
		s.says(write(2, 2), now, wrote(write(2, 2), 2))
	}
}

// F3: a journal that is down, be it by a crash or by its fuse.
func TestHandleDown(t *testing.T) {
	all := quiet()
	for _, q := range questions() {
		all = append(all, q.m)
	}
	for _, m := range all {
		for _, row := range busyRows() {
			for _, down := range []func(s scene){
				func(s scene) { s.Journal().Crash(0) },
				func(s scene) { s.Journal().Fuse(0); s.Journal().Effect() },
			} {
				s := busy(t, "down")
				down(s)
				s.says(m, busyAt)
				s.isBusy()
				// Nothing was done: what an open journal shows is what was there.
				s.Journal().Open()
				goesLike(t, s, busy(t, "up"), row)
			}
		}
	}
}

// F3: kinds that are not named have no answer, whatever the other fields are.
func TestHandleOtherKinds(t *testing.T) {
	all := quiet()
	for _, q := range questions() {
		all = append(all, q.m)
	}
	named := []api.MsgKind{api.MsgProbe, api.MsgDecision, api.MsgSeal, api.MsgLease, api.MsgWrite}
	for kind := api.MsgProbe; kind <= api.MaxKind; kind++ {
		if slices.Contains(named, kind) {
			continue
		}
		for _, m := range all {
			untouched(t, "other kind", gets(with(m, func(m *api.Msg) { m.Kind = kind }), busyAt))
		}
	}
}

// loaded is a message with something in each field that has no say.
func loaded(m api.Msg) api.Msg {
	m.To, m.Ballot, m.Accepted, m.Time, m.Up = 200, 2, 3, 4, 5
	if m.Kind != api.MsgDecision {
		m.HasPlan, m.Plan = true, planOf(77)
	} else {
		m.Epoch = -78
	}
	if m.Kind != api.MsgWrite {
		m.ID, m.Payload = id(7), []byte("other")
	}
	if m.Kind == api.MsgProbe {
		m.Epoch = 79
	}
	if m.Kind != api.MsgProbe && m.Kind != api.MsgLease {
		m.Nonce = 80
	}
	if m.Kind != api.MsgLease {
		m.Code = 1
	}
	m.Session = []byte("other")
	return m
}

// F3: other fields have no say, and are in no answer, and in no record.
func TestHandleOtherFields(t *testing.T) {
	for _, q := range questions() {
		for _, row := range busyRows() {
			s, other := busy(t, q.name+", loaded"), busy(t, q.name)
			s.says(loaded(q.m), busyAt, q.answer)
			s.stored(slices.Concat(busyRecords(), q.record)...)
			other.says(q.m, busyAt, q.answer)
			goesLike(t, s, other, row)
		}
	}
	for _, m := range quiet() {
		for _, row := range busyRows() {
			s, other := busy(t, "loaded"), busy(t, "as it is")
			s.says(loaded(m), busyAt)
			other.says(m, busyAt)
			goesLike(t, s, other, row)
		}
	}
}

// F3: answers go to whoever asked, and who that is does not matter otherwise, but for a grant.
func TestHandleFrom(t *testing.T) {
	for _, from := range []int{0, 1, 2, 5, node, api.MaxNode} {
		for _, q := range questions() {
			s := busy(t, fmt.Sprintf("%s, from %d", q.name, from))
			s.says(with(q.m, func(m *api.Msg) { m.From = from }), busyAt, with(q.answer, func(m *api.Msg) { m.To = from }))
			s.stored(slices.Concat(busyRecords(), q.record)...)
		}
		s := play(t, "decision", usual())
		s.says(with(decision(planOf(3)), func(m *api.Msg) { m.From = from }), 0)
		s.knows(planOf(3))
	}
}

// F3, MsgProbe: the answer has the Nonce, whatever number that is, if the target is well.
func TestProbe(t *testing.T) {
	for _, nonce := range []int64{0, 1, -1, 1 << 40, math.MinInt64, math.MaxInt64} {
		s := busy(t, "probe")
		s.says(probe(nonce), busyAt, alive(probe(nonce)))
		s.Flip(false)
		s.says(probe(nonce), busyAt)
		s.Flip(true)
		s.says(probe(nonce), busyAt, alive(probe(nonce)))
		s.isBusy()
	}
}

// unfit are plans of an epoch that are valid, and do not fit the usual config, each for one reason.
func unfit(epoch int64) []api.Plan {
	var l []api.Plan
	for _, change := range []func(p *api.Plan){
		func(p *api.Plan) { p.Pen = []int{1, 2} },
		func(p *api.Plan) { p.Pen = []int{1, 2, 3, 4} },
		func(p *api.Plan) { p.Pen = nil },
		func(p *api.Plan) { p.Target = 3 },
		func(p *api.Plan) { p.Target = 15 },
		func(p *api.Plan) { p.Prev = 3 },
		func(p *api.Plan) { p.Prev, p.Percent = 15, 100 },
		func(p *api.Plan) { p.Spill = 3 },
		func(p *api.Plan) { p.Spill = 15 },
		func(p *api.Plan) { p.Up = 8 },
		func(p *api.Plan) { p.Up = 1<<15 | 7 },
		func(p *api.Plan) { p.Sup = 8 },
		func(p *api.Plan) { p.Sup = 1 << 15 },
		func(p *api.Plan) { p.Up, p.Sup = 8, 8 },
		func(p *api.Plan) { p.Up, p.Sup = 1<<15|7, 1<<15 },
		func(p *api.Plan) { p.Changes = []int64{1, 2, 3, 4} },
		func(p *api.Plan) { p.Changes = make([]int64, 8) },
	} {
		l = append(l, with(planOf(epoch), change))
	}
	return l
}

// F3, MsgDecision: no plan, and a plan that does not fit.
func TestDecisionRefuses(t *testing.T) {
	untouched(t, "no plan", gets(api.Msg{Kind: api.MsgDecision, From: 3, To: node, Epoch: 9}, busyAt))
	for _, epoch := range []int64{5, 9, math.MaxInt64} {
		for _, p := range unfit(epoch) {
			if !plan.Right(p) {
				t.Fatalf("%v is not valid", p)
			}
			if _, fits := policy.Next(usual(), with(p, func(p *api.Plan) { p.Epoch = 1 }), ^p.Up, 100); fits {
				t.Fatalf("%v fits", p)
			}
			untouched(t, fmt.Sprintf("unfit %v", p), gets(decision(p), busyAt))
		}
	}
}

// F3, MsgDecision: plans that just fit.
func TestDecisionFits(t *testing.T) {
	for _, change := range []func(p *api.Plan){
		func(p *api.Plan) {},
		func(p *api.Plan) { p.Pen = []int{0, api.MaxPen, 0} },
		func(p *api.Plan) { p.Target, p.Prev, p.Spill = 2, 2, 2 },
		func(p *api.Plan) { p.Target, p.Prev, p.Spill = -1, -1, -1 },
		func(p *api.Plan) { p.Up, p.Sup = 7, 7 },
		func(p *api.Plan) { p.Up, p.Sup = 0, 0 },
		func(p *api.Plan) { p.Up, p.Sup = 0, 4 },
		func(p *api.Plan) { p.Changes = []int64{1, 2, maxTime} },
		func(p *api.Plan) { p.Changes = nil },
		func(p *api.Plan) { p.Stamp, p.Since, p.Ramped = maxTime, maxTime, maxTime },
	} {
		s := busy(t, "fits")
		p := with(planOf(5), change)
		s.says(decision(p), busyAt)
		s.knows(p)
		s.hasBusyParts()
		s.stored(busyRecords()...)
	}
}

// F3, MsgDecision: what fits depends on how many targets there are, and on B.
func TestDecisionFitsConfigs(t *testing.T) {
	for _, targets := range []int{1, 2, 7, 15, 16} {
		for _, b := range []int{1, 2, 8} {
			c := with(usual(), func(c *api.Config) { c.Targets, c.Tiers, c.B = targets, make([]int, targets), b })
			for beyond := range 2 {
				most := api.Plan{Epoch: 1, Target: targets - 1, Prev: targets - 1, Spill: targets - 1, Up: 1<<targets - 1, Sup: 1<<targets - 1, Pen: make([]int, targets), Changes: make([]int64, b)}
				for i, change := range []func(p *api.Plan){
					func(p *api.Plan) { p.Target += beyond },
					func(p *api.Plan) { p.Prev += beyond },
					func(p *api.Plan) { p.Spill += beyond },
					func(p *api.Plan) { p.Up += uint64(beyond) },
					func(p *api.Plan) { p.Sup += uint64(beyond) },
					func(p *api.Plan) { p.Up, p.Sup = p.Up+uint64(beyond), p.Sup+uint64(beyond) },
					func(p *api.Plan) { p.Pen = make([]int, targets+beyond) },
					func(p *api.Plan) { p.Pen = make([]int, targets-beyond) },
					func(p *api.Plan) { p.Changes = make([]int64, b+beyond) },
				} {
					s := scene{t, fmt.Sprintf("%d targets, B %d, %d beyond, change %d", targets, b, beyond, i), fence.New(c, 0)}
					p := with(most, change)
					s.says(decision(p), 0)
					if beyond == 0 {
						s.knows(p)
					} else {
						s.knows(policy.Zero(c))
					}
				}
			}
		}
	}
}

// F3, MsgDecision: an Epoch below, at and above that of the known plan; that of the message has no say.
func TestDecisionEpochs(t *testing.T) {
	for _, epoch := range []int64{0, 1, 2, 3, 4} {
		untouched(t, fmt.Sprintf("epoch %d", epoch), gets(decision(elsewhere(epoch)), busyAt))
		untouched(t, fmt.Sprintf("epoch %d, told as 9", epoch), gets(with(decision(elsewhere(epoch)), func(m *api.Msg) { m.Epoch = 9 }), busyAt))
	}
	for _, epoch := range []int64{5, 6, 1 << 40, math.MaxInt64} {
		for _, told := range []int64{epoch, 0, 4, -1, math.MaxInt64} {
			s := busy(t, fmt.Sprintf("epoch %d, told as %d", epoch, told))
			p := with(elsewhere(epoch), func(p *api.Plan) { p.Changes = nil })
			s.says(with(decision(p), func(m *api.Msg) { m.Epoch = told }), busyAt)
			s.knows(p)
			s.says(decision(planOf(epoch)), busyAt)
			s.says(decision(planOf(epoch-1)), busyAt)
			s.knows(p)
			s.hasBusyParts()
			s.stored(busyRecords()...)
		}
	}
	for _, epoch := range []int64{0, 1, 2} {
		s := play(t, fmt.Sprintf("new, epoch %d", epoch), usual())
		s.says(decision(planOf(epoch)), 0)
		if epoch == 0 {
			s.knows(policy.Zero(usual()))
		} else {
			s.knows(planOf(epoch))
		}
	}
}

// F3, MsgDecision: a known plan ends the lease of another epoch for writes, and the fence stays.
func TestDecisionAndLease(t *testing.T) {
	s := busy(t, "next epoch")
	s.learns(planOf(5))
	s.says(write(7, 5), busyAt)
	s.says(write(8, 4), busyAt, refused(write(8, 4)))
	s.leases(5, busyAt)
	s.says(write(7, 5), busyAt, wrote(write(7, 5), 5))
	s.has(5, entries(write(3, 3), write(1, 4), write(7, 5)), ids(write(2, 0), write(8, 0)))
}

// F3, MsgSeal: an Epoch below 1 has no answer.
func TestSealRefuses(t *testing.T) {
	for _, epoch := range []int64{0, -1, -2, math.MinInt64} {
		untouched(t, "seal", gets(seal(epoch), busyAt))
		s := play(t, "new", usual())
		s.says(seal(epoch), 0)
		s.hasNothing()
		s.stored()
	}
}

// F3, MsgSeal: below, at and above the fence: only what is above is remembered, and raises it.
func TestSeal(t *testing.T) {
	for _, epoch := range []int64{1, 2, 3, 4, 5, 6, 1 << 62, math.MaxInt64} {
		s := busy(t, fmt.Sprintf("seal of %d", epoch))
		s.says(seal(epoch), busyAt, sealed(seal(epoch)))
		s.says(seal(epoch), busyAt, sealed(seal(epoch)))
		s.has(max(epoch, 4), entries(write(3, 3), write(1, 4)), ids(write(2, 0)))
		s.knows(planOf(4))
		if epoch <= 4 {
			s.stored(busyRecords()...)
			s.says(write(7, 4), busyAt, wrote(write(7, 4), 4))
		} else {
			s.stored(append(busyRecords(), fenceRecord(epoch))...)
			s.says(write(7, 4), busyAt, refused(write(7, 4)))
		}
	}
	for _, epoch := range []int64{1, 2, math.MaxInt64} {
		s := play(t, fmt.Sprintf("new, seal of %d", epoch), usual())
		s.says(seal(epoch), 0, sealed(seal(epoch)))
		s.has(epoch, nil, nil)
		s.stored(fenceRecord(epoch))
	}
}

// F3, MsgLease: CodeWrite and other Codes.
func TestLeaseCodes(t *testing.T) {
	for _, code := range []int{0, api.CodeLead, 3, 4, api.MaxCode} {
		untouched(t, fmt.Sprintf("code %d", code), gets(with(grant(2, 4, 114), func(m *api.Msg) { m.Code = code }), busyAt))
	}
	s := busy(t, "code")
	s.says(grant(2, 4, 114), busyAt)
	s.says(write(7, 4), 133, wrote(write(7, 4), 4))
}

// F3, MsgLease: grants of other epochs, of other requests, and of nodes that are no acceptors.
func TestLeaseOthers(t *testing.T) {
	for _, m := range []api.Msg{
		grant(2, 3, 114), grant(2, 5, 114), grant(2, 0, 114), grant(2, 4, 113), grant(2, 4, 115), grant(2, 4, 104), grant(2, 4, 0),
		grant(2, 4, -114), grant(2, 4, math.MaxInt64), grant(3, 4, 114), grant(node, 4, 114), grant(64, 4, 114), grant(api.MaxNode, 4, 114), grant(0, 4, 114),
	} {
		untouched(t, short(m), gets(m, busyAt))
	}
	for _, from := range []int{1, 2} {
		s := busy(t, fmt.Sprintf("from %d", from))
		s.says(grant(from, 4, 114), busyAt)
		s.says(write(7, 4), 133, wrote(write(7, 4), 4))
		s.says(write(8, 4), 134)
		s.hasBusyPartsAnd(write(7, 4))
	}
}

// hasBusyPartsAnd holds what a busy target has behind another write.
func (s scene) hasBusyPartsAnd(m api.Msg) {
	s.t.Helper()
	s.has(4, entries(write(3, 3), write(1, 4), m), ids(write(2, 0)))
}

// F3, MsgLease: how many grants make a lease, for each number of acceptors.
func TestLeaseMajority(t *testing.T) {
	for f := range 4 {
		c := with(usual(), func(c *api.Config) { c.F = f })
		s := play(t, fmt.Sprintf("F %d", f), c)
		s.learns(planOf(1))
		s.ticks(5, asksOf(c, self, 1, 5)...)
		answer := with(wrote(write(9, 1), 1), func(m *api.Msg) { m.From = api.TargetNode(c, self) })
		for from := range f {
			s.says(grant(2*f-from, 1, 5), 6)
			s.says(grant(2*f-from, 1, 5), 6)
			s.says(write(9, 1), 6)
		}
		s.says(grant(0, 1, 5), 6)
		s.says(write(9, 1), 6, answer)
	}
}

// F3, MsgWrite: without an ID there is no answer.
func TestWriteWithoutID(t *testing.T) {
	for _, epoch := range []int64{0, 3, 4, 5} {
		for _, none := range [][]int64{nil, {}} {
			untouched(t, "no ID", gets(with(write(7, epoch), func(m *api.Msg) { m.ID = none }), busyAt))
		}
	}
}

// F3, MsgWrite: what was written has its own Epoch in the answer, and what is closed the message's, whatever the message is, and whenever it comes.
func TestWriteKnownIDs(t *testing.T) {
	for _, epoch := range []int64{math.MinInt64, -1, 0, 2, 3, 4, 5, 100, math.MaxInt64} {
		for _, now := range []int64{0, 115, 124, 5000, maxTime} {
			for _, row := range busyRows() {
				s := busy(t, fmt.Sprintf("epoch %d", epoch))
				other := func(n int64) api.Msg {
					return with(write(n, epoch), func(m *api.Msg) { m.Payload, m.Session = []byte("other"), nil })
				}
				s.says(other(3), now, wrote(write(3, 0), 3))
				s.says(other(1), now, wrote(write(1, 0), 4))
				s.says(other(2), now, refused(write(2, epoch)))
				s.isBusy()
				goesLike(t, s, busy(t, "busy"), row)
			}
		}
	}
}

// F3, MsgWrite: they come before all else: before a plan that does not name it, a fence, and a window that is full.
func TestWriteKnownIDsAnyway(t *testing.T) {
	for _, change := range []func(s scene){
		func(s scene) { s.learns(elsewhere(9)) },
		func(s scene) { s.says(seal(9), busyAt, sealed(seal(9))) },
		func(s scene) {
			s.says(write(7, 4), busyAt, wrote(write(7, 4), 4))
			s.says(write(8, 4), busyAt, refused(write(8, 4)))
		},
		func(s scene) { s.restarts(0) },
		func(s scene) { s.Flip(false) },
	} {
		s := busy(t, "anyway")
		change(s)
		before := s.Journal().Synced()
		s.says(write(1, 4), 115, wrote(write(1, 4), 4))
		s.says(write(3, 4), 115, wrote(write(3, 4), 3))
		s.says(write(2, 4), 115, refused(write(2, 4)))
		if !bytes.Equal(s.Journal().Synced(), before) {
			t.Error("it wrote")
		}
	}
}

// F3, MsgWrite: two IDs are equal only if all three numbers are.
func TestWriteIDs(t *testing.T) {
	all := [][]int64{
		{1, 2, 3}, {1, 2, 4}, {1, 3, 3}, {2, 2, 3}, {3, 2, 1}, {1, 3, 2}, {2, 1, 3}, {0, 0, 0}, {1, 2, -3}, {-1, 2, 3},
		{1, 2, 3 + 1<<32}, {1 + 1<<32, 2, 3}, {math.MinInt64, 0, 0}, {0, 0, math.MinInt64}, {math.MaxInt64, math.MaxInt64, math.MaxInt64},
	}
	s := ready(t, "IDs", lasting(1<<20), 4, 100)
	var log []api.Entry
	var closed [][]int64
	for i, number := range all {
		m := with(write(0, 4-int64(i%2)), func(m *api.Msg) { m.ID, m.Payload = number, []byte{byte(i)} })
		if i%2 == 0 {
			s.says(m, 101, wrote(m, 4))
			log = append(log, entry(m))
		} else {
			s.says(m, 101, refused(m))
			closed = append(closed, number)
		}
	}
	s.has(4, log, closed)
	for i, number := range all {
		m := with(write(0, 4), func(m *api.Msg) { m.ID = number })
		if i%2 == 0 {
			s.says(m, 101, wrote(m, 4))
		} else {
			s.says(m, 101, refused(m))
		}
	}
	s.has(4, log, closed)
}

// F3, MsgWrite: an Epoch above that of the known plan has no answer, and closes nothing.
func TestWriteAbove(t *testing.T) {
	for _, epoch := range []int64{5, 6, 1000, math.MaxInt64} {
		untouched(t, "above", gets(write(7, epoch), busyAt))
		s := play(t, "new", usual())
		s.says(write(7, epoch-4), 0)
		s.stored()
		s = busy(t, "plan for others")
		s.learns(elsewhere(5))
		if epoch > 5 {
			s.says(write(7, epoch), busyAt)
			s.stored(busyRecords()...)
		}
		s = busy(t, "sealed")
		s.says(seal(math.MaxInt64), busyAt, sealed(seal(math.MaxInt64)))
		s.says(write(7, epoch), busyAt)
	}
}

// F3, MsgWrite: an Epoch below that of the known plan is closed, lease or not.
func TestWriteBelow(t *testing.T) {
	for _, epoch := range []int64{3, 2, 1, 0, -1, math.MinInt64} {
		for _, now := range []int64{0, 115, 124, 5000} {
			s := busy(t, fmt.Sprintf("below, %d", epoch))
			s.says(write(7, epoch), now, refused(write(7, epoch)))
			s.has(4, entries(write(3, 3), write(1, 4)), ids(write(2, 0), write(7, 0)))
			s.stored(append(busyRecords(), closeRecord(write(7, 0)))...)
			s.says(write(7, 4), 115, refused(write(7, 4)))
		}
	}
	s := play(t, "new", usual())
	s.says(write(1, 0), 0, refused(write(1, 0)))
	s.says(write(2, -1), 0, refused(write(2, -1)))
	s.has(0, nil, ids(write(1, 0), write(2, 0)))
}

// F3, MsgWrite: plans that name its index, and plans that do not.
func TestWriteNames(t *testing.T) {
	for _, n := range namers() {
		for _, leased := range []bool{true, false} {
			s := play(t, fmt.Sprintf("%s, leased %v", n.name, leased), usual())
			// Under a plan that does not name it, it asks for no lease, so that grants give it none.
			s.learns(n.plan(4))
			if n.names {
				s.ticks(100, asks(4, 100)...)
			} else {
				s.ticks(100)
			}
			if leased {
				s.says(grant(0, 4, 100), 100)
				s.says(grant(1, 4, 100), 100)
			}
			switch {
			case n.names && leased:
				s.says(write(7, 4), 101, wrote(write(7, 4), 4))
				s.stored(writeRecord(write(7, 4)))
				s.has(4, entries(write(7, 4)), nil)
			case n.names:
				s.says(write(7, 4), 101)
				s.stored()
				s.has(0, nil, nil)
			default:
				s.says(write(7, 4), 101, refused(write(7, 4)))
				s.stored(closeRecord(write(7, 0)))
				s.has(0, nil, ids(write(7, 0)))
			}
		}
	}
}

// F3, MsgWrite: the fence below, at and above the Epoch, be it by a seal or by what was restored; a closed ID needs no lease.
func TestWriteFence(t *testing.T) {
	for _, fence := range []int64{0, 1, 3, 4, 5, 6, math.MaxInt64} {
		for _, leased := range []bool{true, false} {
			for _, sealedNow := range []bool{true, false} {
				s := play(t, fmt.Sprintf("fence %d, leased %v, sealed now %v", fence, leased, sealedNow), usual())
				if fence > 0 && !sealedNow {
					s.put(fenceRecord(fence))
					s.restarts(0)
				}
				s.learns(planOf(4))
				if leased {
					s.leases(4, 100)
				}
				if fence > 0 && sealedNow {
					s.says(seal(fence), 100, sealed(seal(fence)))
				}
				switch {
				case fence > 4:
					s.says(write(7, 4), 101, refused(write(7, 4)))
					s.has(fence, nil, ids(write(7, 0)))
				case leased:
					s.says(write(7, 4), 101, wrote(write(7, 4), 4))
					s.has(4, entries(write(7, 4)), nil)
				default:
					s.says(write(7, 4), 101)
					s.has(fence, nil, nil)
				}
			}
		}
	}
}

// F3, MsgWrite: a lease that is live, that has just ended, that was never granted, and that is for another epoch.
func TestWriteLease(t *testing.T) {
	for _, c := range []api.Config{usual(), lasting(1), lasting(2), lasting(1 << 20)} {
		for _, at := range []int64{0, 1, 100, maxTime - c.L - 1} {
			for _, now := range []int64{0, at, at + c.L - 1, at + c.L, at + c.L + 1, maxTime} {
				s := ready(t, fmt.Sprintf("L %d, since %d", c.L, at), c, 4, at)
				if now < at+c.L {
					s.says(write(7, 4), now, wrote(write(7, 4), 4))
					s.stored(writeRecord(write(7, 4)))
				} else {
					s.says(write(7, 4), now)
					s.stored()
					s.has(0, nil, nil)
				}
			}
		}
	}
	for grants := range 2 {
		s := play(t, fmt.Sprintf("%d grants", grants), usual())
		s.learns(planOf(4))
		s.says(write(7, 4), 0)
		s.ticks(100, asks(4, 100)...)
		for from := range grants {
			s.says(grant(from, 4, 100), 100)
		}
		s.says(write(7, 4), 100)
		s.says(write(7, 4), 0)
		s.stored()
	}
	// What has no answer may still be written, once there is a lease.
	s := ready(t, "asked again", usual(), 4, 100)
	s.says(write(7, 4), 120)
	s.leases(4, 120)
	s.says(write(7, 4), 120, wrote(write(7, 4), 4))
}

// F3, MsgWrite: a lease stays till its end while it is asked for again.
func TestWriteLeaseRenewed(t *testing.T) {
	s := ready(t, "renewed", usual(), 4, 100)
	s.ticks(110, asks(4, 110)...)
	s.says(write(1, 4), 119, wrote(write(1, 4), 4))
	s.says(write(2, 4), 120)
	s.says(grant(2, 4, 110), 121)
	s.says(write(2, 4), 121)
	s.says(grant(1, 4, 110), 121)
	s.says(write(2, 4), 129, wrote(write(2, 4), 4))
	s.says(write(3, 4), 130)
}

// F3, MsgWrite: the window: so many writes, and the next one only Span behind its beginning, which is that of the first write behind the one before.
func TestWriteWindow(t *testing.T) {
	for _, size := range []int{1, 2, 3, 7, 1000} {
		for _, span := range []int64{1, 2, 10, 1 << 20} {
			began := 5 * span
			for _, next := range []int64{0, span / 2, span - 1, span, span + 1, 3 * span} {
				s := ready(t, fmt.Sprintf("Cap %d, Span %d, +%d", size, span, next), windowed(size, span), 4, began)
				for n := range int64(size) {
					s.says(write(n, 4), began+n*(span-1)/int64(size), wrote(write(n, 4), 4))
				}
				s.leases(4, max(began+next, began+1<<19))
				if next < span {
					s.says(write(5000, 4), began+next, refused(write(5000, 4)))
					s.says(write(5001, 4), began+span, wrote(write(5001, 4), 4))
				} else {
					s.says(write(5000, 4), began+next, wrote(write(5000, 4), 4))
				}
			}
		}
	}
}

// F3, MsgWrite: a full window closes the ID for good.
func TestWriteFull(t *testing.T) {
	s := ready(t, "full", usual(), 4, 100)
	s.says(write(1, 4), 101, wrote(write(1, 4), 4))
	s.says(write(2, 4), 103, wrote(write(2, 4), 4))
	s.says(write(3, 4), 110, refused(write(3, 4)))
	s.says(write(4, 4), 111, wrote(write(4, 4), 4))
	s.says(write(3, 4), 112, refused(write(3, 4)))
	s.says(write(5, 4), 112, wrote(write(5, 4), 4))
	s.says(write(6, 4), 113, refused(write(6, 4)))
	s.has(4, entries(write(1, 4), write(2, 4), write(4, 4), write(5, 4)), ids(write(3, 0), write(6, 0)))
	s.stored(writeRecord(write(1, 4)), writeRecord(write(2, 4)), closeRecord(write(3, 0)), writeRecord(write(4, 4)), writeRecord(write(5, 4)), closeRecord(write(6, 0)))
}

// F3, MsgWrite: what is not a new write neither counts in the window nor begins one: what was written, is closed, is not answered.
func TestWriteWindowOthers(t *testing.T) {
	for i, m := range []api.Msg{write(3, 4), write(2, 4), write(50, 5), write(50, 3), seal(4), probe(1), with(write(50, 4), func(m *api.Msg) { m.ID = nil })} {
		// In a window.
		s := busy(t, fmt.Sprintf("other %d", i))
		for range 3 {
			s.Handle(m, 115)
		}
		s.says(write(7, 4), 115, wrote(write(7, 4), 4))
		s.says(write(8, 4), 115, refused(write(8, 4)))
		// Behind one: it begins at 119, not at 117.
		s = busy(t, fmt.Sprintf("other %d, later", i))
		s.says(grant(1, 4, 114), 115)
		s.Handle(m, 117)
		s.says(write(7, 4), 119, wrote(write(7, 4), 4))
		s.says(write(8, 4), 128, wrote(write(8, 4), 4))
		s.says(write(9, 4), 128, refused(write(9, 4)))
		s.says(write(10, 4), 129, wrote(write(10, 4), 4))
	}
	// A write whose lease is over begins none.
	s := ready(t, "no lease", usual(), 4, 100)
	s.says(write(1, 4), 119, wrote(write(1, 4), 4))
	s.says(write(2, 4), 130)
	s.leases(4, 131)
	s.says(write(2, 4), 133, wrote(write(2, 4), 4))
	s.says(write(3, 4), 142, wrote(write(3, 4), 4))
	s.says(write(4, 4), 142, refused(write(4, 4)))
	s.says(write(5, 4), 143, wrote(write(5, 4), 4))
}

// F3, MsgWrite: a window goes on in the next epoch, and ends by time alone.
func TestWriteWindowAndEpochs(t *testing.T) {
	s := ready(t, "epochs", usual(), 4, 100)
	s.says(write(1, 4), 105, wrote(write(1, 4), 4))
	s.learns(planOf(5))
	s.leases(5, 106)
	s.says(write(2, 5), 107, wrote(write(2, 5), 5))
	s.says(write(3, 5), 114, refused(write(3, 5)))
	s.says(write(4, 5), 115, wrote(write(4, 5), 5))
}

// F3, MsgWrite: a time that goes back ends no window.
func TestWriteWindowBack(t *testing.T) {
	s := ready(t, "back", usual(), 4, 100)
	s.says(write(1, 4), 105, wrote(write(1, 4), 4))
	s.says(write(2, 4), 3, wrote(write(2, 4), 4))
	s.says(write(3, 4), 3, refused(write(3, 4)))
	s.says(write(4, 4), 114, refused(write(4, 4)))
	s.says(write(5, 4), 115, wrote(write(5, 4), 4))
}

// F3, MsgWrite: payloads of any size, with any bytes, and any Session, which is not stored.
func TestWritePayloads(t *testing.T) {
	all := make([]byte, 256)
	for i := range all {
		all[i] = byte(i)
	}
	s := ready(t, "payloads", lasting(20), 4, 100)
	var log []api.Entry
	var stored []api.Msg
	for i, payload := range [][]byte{nil, {}, {0}, all, make([]byte, api.MaxPayload), bytes.Repeat([]byte{255}, api.MaxPayload)} {
		m := with(write(int64(i), 4), func(m *api.Msg) { m.Payload, m.Session = payload, make([]byte, api.MaxSession) })
		s.says(m, 101, wrote(m, 4))
		log = append(log, entry(m))
		stored = append(stored, writeRecord(m))
	}
	s.has(4, log, nil)
	s.stored(stored...)
	s.restarts(200)
	s.has(4, log, nil)
}

// F3: to remember: with a fuse that blows at the Append, or at the Sync, there is no answer, and nothing is done.
func TestRememberFails(t *testing.T) {
	for _, q := range questions() {
		for fuse := range 4 {
			name := fmt.Sprintf("%s, fuse %d", q.name, fuse)
			s := busy(t, name)
			s.Journal().Fuse(fuse)
			if len(q.record) == 0 || fuse >= 2 {
				s.says(q.m, busyAt, q.answer)
				s.stored(slices.Concat(busyRecords(), q.record)...)
				continue
			}
			for _, row := range busyRows() {
				s := busy(t, name)
				s.Journal().Fuse(fuse)
				s.says(q.m, busyAt)
				s.hasBusyParts()
				s.knows(planOf(4))
				if !s.Journal().Down() || !bytes.Equal(s.Journal().Synced(), framed(busyRecords()...)) || fuse == 1 && !bytes.Equal(s.Journal().Tail(), framed(q.record...)) {
					t.Errorf("%s: down %v, tail %x", name, s.Journal().Down(), s.Journal().Tail())
				}
				s.Journal().Open()
				goesLike(t, s, busy(t, name), row)
			}
		}
	}
}

// F3: what was not synced may come back by a crash, at each byte of it, or not; what was answered is there.
func TestRememberAndCrash(t *testing.T) {
	for _, q := range questions() {
		size := len(framed(q.record...))
		for fuse := range 3 {
			for keep := range size + 2 {
				s := busy(t, fmt.Sprintf("%s, fuse %d, %d bytes kept", q.name, fuse, keep))
				s.Journal().Fuse(fuse)
				answered := len(s.Handle(q.m, busyAt)) > 0
				s.Journal().Crash(keep)
				s.restarts(busyAt)
				if answered || fuse == 1 && keep >= size {
					s.stored(slices.Concat(busyRecords(), q.record)...)
					s.checkAnswerHolds(q)
				} else {
					s.stored(busyRecords()...)
					s.hasBusyParts()
				}
			}
		}
	}
}

// checkAnswerHolds holds that what was answered is answered again behind a restart.
func (s scene) checkAnswerHolds(q question) {
	s.t.Helper()
	s.says(q.m, busyAt, q.answer)
	s.stored(slices.Concat(busyRecords(), q.record)...)
	if s.Fence() < q.answer.Epoch && q.answer.Kind == api.MsgSealed {
		s.t.Errorf("%s: the fence is %d", s.name, s.Fence())
	}
}

// Rule P3: neither the message nor its lists are changed, with their spare capacity.
func TestHandleLeavesTheMessage(t *testing.T) {
	all := quiet()
	for _, q := range questions() {
		all = append(all, q.m)
	}
	for _, m := range all {
		pen, changes := []int{9, 7, 8, 56}, []int64{4, 5, 57, 58}
		number, session, payload := []int64{0, 1, 7, 59}, []byte("session"), []byte("payload")
		m.Session, m.Payload = session[:3], payload[:3]
		if len(m.ID) > 0 {
			number[2] = m.ID[2]
			m.ID = number[:3]
		}
		if m.HasPlan {
			m.Plan.Pen, m.Plan.Changes = pen[:3], changes[:2]
		}
		want := slices.Clone(number)
		s := busy(t, short(m))
		s.Handle(m, busyAt)
		s.says(decision(planOf(9)), busyAt)
		s.ticks(busyAt, asks(9, busyAt)...)
		s.Handle(write(70, 3), busyAt)
		s.restarts(1001)
		if !slices.Equal(pen, []int{9, 7, 8, 56}) || !slices.Equal(changes, []int64{4, 5, 57, 58}) || !slices.Equal(number, want) || string(session) != "session" || string(payload) != "payload" {
			t.Errorf("%s: it is now %+v", s.name, m)
		}
	}
}

// Rule P3: the lists of answers are not each other's memory.
func TestAnswersAreApart(t *testing.T) {
	for _, q := range questions() {
		if len(q.record) > 0 {
			continue
		}
		s := busy(t, q.name)
		first := s.Handle(q.m, busyAt)
		_ = append(first, api.Msg{})
		first[0].Epoch, first[0].From = -1, -1
		s.says(q.m, busyAt, q.answer)
	}
}
