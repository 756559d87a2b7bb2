package acceptor_test

import (
	"fmt"
	"math"
	"slices"
	"testing"

	"locum/acceptor"
	"locum/api"
	"locum/msg"
	"locum/plan"
)

// Promise P15.1: Handle.

// The chapter's examples.
func TestExamples(t *testing.T) {
	s := play(t, "prepare twice", usual())
	zero := api.Plan{Target: -1, Prev: -1, Spill: -1, Pen: []int{0, 0}}
	m := prepareWith(1, 16, zero)
	s.says(m, 0, promised(m))
	s.says(m, 0, nacked(m, 16))
	s.wrote(promiseRecord(1, 16, zero))
	s = play(t, "writes", usual())
	s.says(askWrites(1), 5, leased(askWrites(1)))
	s.says(prepare(2, 16), 6)
	s.wrote(writesRecord(6, 1))
}

// question is a message that a busy acceptor answers, and the records that it remembers ahead of that.
type question struct {
	name    string
	m       api.Msg
	now     int64
	answer  api.Msg
	records []api.Msg
}

// questions have one of each kind of answer.
func questions() []question {
	known, value := planOf(2, 9), planOf(3, 1)
	one := func(r api.Msg) []api.Msg { return []api.Msg{r} }
	return []question{
		{"prepare below", prepare(2, 99), 12, decided(prepare(2, 99), known), nil},
		{"prepare, refused", prepare(3, 8), 12, nacked(prepare(3, 8), 8), nil},
		{"prepare", prepare(3, 9), 12, promisedWith(prepare(3, 9), 7, value), one(promiseRecord(3, 9, known))},
		{"prepare above", prepare(4, 1), 35, promised(prepare(4, 1)), one(promiseRecord(4, 1, planOf(3, 9)))},
		{"prepare above, sealed", sealed(5, 2), 12, promised(prepare(5, 2)), one(promiseRecord(5, 2, planOf(4, 9)))},
		{"accept below", accept(2, 9), 12, decided(accept(2, 9), known), nil},
		{"accept, refused", accept(3, 7), 12, nacked(accept(3, 7), 8), nil},
		{"accept", accept(3, 8), 12, taken(accept(3, 8)), one(acceptedRecord(8, value))},
		{"writes", askWrites(6), 12, leased(askWrites(6)), one(writesRecord(6, 6))},
		{"writes within", askWrites(4), 61, leased(askWrites(4)), nil},
		{"lead", askLead(3), 12, leased(askLead(3)), nil},
		{"lead of another one", askLead(4), 37, leased(askLead(4)), one(leadRecord(4))},
	}
}

// All of them are answered so.
func TestQuestions(t *testing.T) {
	for _, q := range questions() {
		s := busy(t, q.name)
		s.says(q.m, q.now, q.answer)
		s.wrote(slices.Concat(busyRecords(), q.records)...)
	}
}

// untouched holds that an event changes nothing that an acceptor ever shows.
func untouched(t *testing.T, name string, e event) {
	t.Helper()
	for _, after := range busyQuestions() {
		s, other := busy(t, name), busy(t, name)
		if got := s.Handle(e.m, e.now); len(got) != 0 {
			t.Errorf("%s: %v: %s, want no answer", name, e, shorts(got))
		}
		s.has(3, 8, 7, planOf(3, 1))
		s.wrote(busyRecords()...)
		s.says(after.m, after.now, other.Handle(after.m, after.now)...)
		s.wrote(recordsIn(t, other.Journal().Synced())...)
	}
}

// wrongs are variants of a message that are not right.
func wrongs(m api.Msg) []api.Msg {
	var l []api.Msg
	for _, change := range []func(m *api.Msg){
		func(m *api.Msg) { m.From = -1 },
		func(m *api.Msg) { m.From = api.MaxNode + 1 },
		func(m *api.Msg) { m.To = -1 },
		func(m *api.Msg) { m.To = api.MaxNode + 1 },
		func(m *api.Msg) { m.Up = 1 << 16 },
		func(m *api.Msg) { m.HasPlan, m.Plan = true, planOf(m.Epoch-1, 9); m.Plan.Percent = 101 },
		func(m *api.Msg) { m.HasPlan, m.Plan = true, planOf(m.Epoch, 1); m.Plan.Pen = []int{-1} },
		func(m *api.Msg) { m.HasPlan, m.Plan = false, planOf(m.Epoch-1, 9) },
		func(m *api.Msg) { m.ID = []int64{1, 2} },
		func(m *api.Msg) { m.Session = make([]byte, api.MaxSession+1) },
		func(m *api.Msg) { m.Payload = make([]byte, api.MaxPayload+1) },
		func(m *api.Msg) { m.Kind += 1 << 8 },
		func(m *api.Msg) { m.Kind = -m.Kind },
	} {
		l = append(l, with(m, change))
	}
	return l
}

// A3: a message that is not right.
func TestHandleWrong(t *testing.T) {
	for _, q := range questions() {
		for i, m := range wrongs(q.m) {
			if msg.Right(m) {
				t.Fatalf("%s, %d: %+v is right", q.name, i, m)
			}
			untouched(t, fmt.Sprintf("%s, wrong %d", q.name, i), gets(m, q.now))
		}
		for _, code := range []int{-1, api.MaxCode + 1, q.m.Code + 1<<16, math.MinInt} {
			untouched(t, fmt.Sprintf("%s, code %d", q.name, code), gets(with(q.m, func(m *api.Msg) { m.Code = code }), q.now))
		}
	}
}

// A3: a time that there can't be.
func TestHandleTimes(t *testing.T) {
	for _, q := range questions() {
		for _, now := range []int64{-1, -2, math.MinInt64, math.MinInt64 + 1<<21, maxTime + 1, maxTime + 2, 1 << 60, math.MaxInt64} {
			untouched(t, fmt.Sprintf("%s at %d", q.name, now), gets(q.m, now))
		}
	}
	for _, now := range []int64{0, 1, 2, maxTime - 1, maxTime} {
		for _, m := range []api.Msg{askWrites(1), askLead(3)} {
			play(t, "first", usual()).says(m, now, leased(m))
		}
		s := play(t, fmt.Sprintf("at %d", now), usual())
		s.says(prepare(2, 4), now, promised(prepare(2, 4)))
		s.says(accept(2, 4), now, taken(accept(2, 4)))
		s.says(accept(2, 3), now, nacked(accept(2, 3), 4))
		s.says(accept(1, 3), now, decided(accept(1, 3), planOf(1, 9)))
	}
}

// A3: a journal that is down, be it by a crash or by its fuse.
func TestHandleDown(t *testing.T) {
	for _, q := range questions() {
		for _, e := range busyQuestions() {
			for _, down := range []func(s scene){
				func(s scene) { s.Journal().Crash(0) },
				func(s scene) { s.Journal().Fuse(0); s.Journal().Effect() },
			} {
				s, other := busy(t, q.name+", down"), busy(t, q.name)
				down(s)
				s.says(q.m, q.now)
				s.has(3, 8, 7, planOf(3, 1))
				s.wrote(busyRecords()...)
				// Nothing was done: what an open journal shows is what was there.
				s.Journal().Open()
				s.says(e.m, e.now, other.Handle(e.m, e.now)...)
			}
		}
	}
}

// A3: kinds that are not named have no answer, whatever the other fields are.
func TestHandleOtherKinds(t *testing.T) {
	for kind := api.MsgProbe; kind <= api.MaxKind; kind++ {
		if kind == api.MsgPrepare || kind == api.MsgAccept || kind == api.MsgAsk {
			continue
		}
		for _, q := range questions() {
			m := with(q.m, func(m *api.Msg) { m.Kind = kind })
			if !msg.Right(m) {
				t.Fatalf("kind %d is not right", kind)
			}
			untouched(t, fmt.Sprintf("%s, kind %d", q.name, kind), gets(m, q.now))
		}
	}
}

// A3: other fields have no say, and are in no answer, and in no record.
func TestHandleOtherFields(t *testing.T) {
	for _, q := range questions() {
		m := with(q.m, func(m *api.Msg) {
			m.To, m.Accepted, m.Time, m.Up = 200, 3, 4, 5
			m.ID, m.Session, m.Payload = []int64{1, 2, 3}, []byte("session"), []byte("payload")
			if m.Kind == api.MsgAsk {
				m.Ballot, m.HasPlan, m.Plan = 6, true, planOf(7, 8)
			} else {
				m.Nonce = 9
			}
		})
		s := busy(t, q.name+", loaded")
		s.says(m, q.now, q.answer)
		s.wrote(slices.Concat(busyRecords(), q.records)...)
	}
}

// A3: answers go to whoever asked; of an ask the record has who asked.
func TestHandleFrom(t *testing.T) {
	for _, from := range []int{0, 1, 2, 5, api.MaxNode} {
		for _, q := range questions() {
			if q.m.Code == api.CodeLead && q.m.Kind == api.MsgAsk {
				continue
			}
			s := busy(t, fmt.Sprintf("%s, from %d", q.name, from))
			s.says(with(q.m, func(m *api.Msg) { m.From = from }), q.now, with(q.answer, func(m *api.Msg) { m.To = from }))
			records := slices.Clone(q.records)
			for i := range records {
				if records[i].Kind == api.MsgLease {
					records[i].From = from
				}
			}
			s.wrote(slices.Concat(busyRecords(), records)...)
		}
	}
}

// A3, MsgPrepare: what has no answer, ahead of everything else.
func TestPrepareRefuses(t *testing.T) {
	for _, epoch := range []int64{2, 3, 4, 9} {
		right := with(prepare(epoch, 99), func(m *api.Msg) { m.Code = api.CodeSealed })
		for i, change := range []func(m *api.Msg){
			func(m *api.Msg) { m.Ballot = 0 },
			func(m *api.Msg) { m.Ballot = -1 },
			func(m *api.Msg) { m.Ballot = math.MinInt64 },
			func(m *api.Msg) { m.HasPlan, m.Plan = false, api.Plan{} },
			func(m *api.Msg) { m.Plan.Epoch = m.Epoch },
			func(m *api.Msg) { m.Plan.Epoch = m.Epoch + 1 },
			func(m *api.Msg) { m.Plan.Epoch = m.Epoch - 2 },
			func(m *api.Msg) { m.Plan.Epoch = 0; m.Epoch = 9 },
			func(m *api.Msg) { m.Epoch = 0; m.Plan.Epoch = 0 },
			func(m *api.Msg) { m.Epoch = math.MinInt64; m.Plan.Epoch = math.MaxInt64 },
			func(m *api.Msg) { m.Epoch = -epoch },
		} {
			m := with(right, change)
			untouched(t, fmt.Sprintf("prepare %d, wrong %d", epoch, i), gets(m, 40))
		}
	}
	s := play(t, "new", usual())
	s.says(with(prepare(1, 1), func(m *api.Msg) { m.Epoch = 0 }), 0)
	s.says(with(prepare(1, 1), func(m *api.Msg) { m.HasPlan, m.Plan = false, api.Plan{} }), 0)
	s.hasNothing()
	s.wrote()
}

// A3, MsgPrepare: an epoch below.
func TestPrepareBelow(t *testing.T) {
	for _, epoch := range []int64{1, 2} {
		for _, ballot := range []int64{1, 7, 8, 9, math.MaxInt64} {
			for _, code := range []int{0, api.CodeSealed, 2, api.MaxCode} {
				s := busy(t, "below")
				m := with(prepare(epoch, ballot), func(m *api.Msg) { m.Code = code })
				s.says(m, 12, decided(m, planOf(2, 9)))
				s.has(3, 8, 7, planOf(3, 1))
				s.wrote(busyRecords()...)
			}
		}
	}
	// The plan is the one that came with the epoch.
	s := play(t, "below", usual())
	s.says(prepareWith(5, 1, planOf(4, 30)), 0, promised(prepare(5, 1)))
	s.says(prepareWith(5, 2, planOf(4, 31)), 0, promised(prepare(5, 2)))
	s.says(prepare(4, 3), 0, decided(prepare(4, 3), planOf(4, 30)))
	s.says(prepareWith(7, 1, planOf(6, 32)), 0, promised(prepare(7, 1)))
	s.says(prepare(6, 3), 0, decided(prepare(6, 3), planOf(6, 32)))
}

// A3, MsgPrepare: an epoch above, without grants.
func TestPrepareAbove(t *testing.T) {
	for _, epoch := range []int64{1, 2, 3, 100, 1 << 62, math.MaxInt64} {
		for _, ballot := range []int64{1, 2, 1000, math.MaxInt64} {
			for _, code := range []int{0, api.CodeSealed, 2} {
				s := play(t, fmt.Sprintf("above, %d, %d", epoch, ballot), usual())
				m := with(prepare(epoch, ballot), func(m *api.Msg) { m.Code = code })
				s.says(m, 0, promised(m))
				s.has(epoch, ballot, 0, api.Plan{})
				s.wrote(promiseRecord(epoch, ballot, planOf(epoch-1, 9)))
				s.says(m, 0, nacked(m, ballot))
			}
		}
	}
	// What was accepted is over, and the ballot begins anew.
	s := play(t, "above", usual())
	s.says(prepare(1, 50), 0, promised(prepare(1, 50)))
	s.says(accept(1, 50), 0, taken(accept(1, 50)))
	s.says(prepare(2, 3), 0, promised(prepare(2, 3)))
	s.has(2, 3, 0, api.Plan{})
	s.says(prepare(2, 4), 0, promised(prepare(2, 4)))
	s.wrote(promiseRecord(1, 50, planOf(0, 9)), acceptedRecord(50, planOf(1, 1)), promiseRecord(2, 3, planOf(1, 9)), promiseRecord(2, 4, planOf(1, 9)))
}

// leasing is an acceptor at epoch 2 that has granted writes for a span, the low epoch at 90 and the high one at 100.
func leasing(t *testing.T, name string, c api.Config, g span) scene {
	t.Helper()
	s := play(t, name, c)
	s.says(prepare(2, 1), 50, promised(prepare(2, 1)))
	if g != (span{}) {
		s.says(askWrites(g.low), 90, leased(askWrites(g.low)))
		s.says(askWrites(g.high), 100, leased(askWrites(g.high)))
	}
	return s
}

// A3, MsgPrepare: an epoch above has to wait where the low epoch is below it, for L + M, unless it is sealed.
func TestPrepareWaits(t *testing.T) {
	for _, c := range configs() {
		wait := c.L + c.M
		for _, g := range []span{{}, {2, 2}, {2, 5}, {3, 3}, {3, 4}, {4, 6}, {7, 9}} {
			for epoch := int64(3); epoch <= 10; epoch++ {
				for _, code := range []int{0, api.CodeSealed, 2, 3, api.MaxCode} {
					for _, now := range []int64{100, 101, 99, 100 + wait - 1, 100 + wait, 100 + wait + 1, maxTime} {
						s := leasing(t, fmt.Sprintf("L + M %d, span %v", wait, g), c, g)
						n := len(recordsIn(t, s.Journal().Synced()))
						m := with(prepare(epoch, 6), func(m *api.Msg) { m.Code = code })
						if g.low != 0 && g.low < epoch && now < 100+wait && code != api.CodeSealed {
							s.says(m, now)
							s.has(2, 1, 0, api.Plan{})
							if len(recordsIn(t, s.Journal().Synced())) != n {
								t.Errorf("%s: it wrote", s.name)
							}
						} else {
							s.says(m, now, promised(m))
							s.has(epoch, 6, 0, api.Plan{})
						}
					}
				}
			}
		}
	}
}

// A3, MsgPrepare: what a promise leaves of the span, and of the time of the last grant.
func TestPrepareTakesFromTheSpan(t *testing.T) {
	for low := int64(2); low <= 6; low++ {
		for high := low; high <= 6; high++ {
			for epoch := int64(3); epoch <= 7; epoch++ {
				want := span{max(low, epoch), high}
				if high < epoch {
					want = span{}
				}
				m := sealed(epoch, 4)
				checkSpan(t, epoch, 101, want, func() scene {
					s := leasing(t, fmt.Sprintf("%d to %d, promised %d", low, high, epoch), usual(), span{low, high})
					s.says(m, 101, promised(m))
					return s
				})
				if want.low == 0 {
					continue
				}
				for _, now := range []int64{124, 125} {
					s := leasing(t, fmt.Sprintf("%d to %d, promised %d, then", low, high, epoch), usual(), span{low, high})
					s.says(m, 101, promised(m))
					held(t, s, prepare(want.low+1, 1), now, now == 125)
				}
			}
		}
	}
}

// A3, MsgPrepare: what is requested in vain is a wish: the greatest epoch, and the last time.
func TestWish(t *testing.T) {
	for _, l := range []struct {
		vain   []int64 // requested in vain at 101, 102, and so on
		wish   int64
		sealed bool
	}{
		{[]int64{3}, 3, false}, {[]int64{4}, 4, false}, {[]int64{9}, 9, false},
		{[]int64{4, 6}, 6, false}, {[]int64{6, 4}, 6, false}, {[]int64{5, 5, 5}, 5, false}, {[]int64{4, 8, 3, 6}, 8, false},
	} {
		last := int64(100 + len(l.vain))
		for epoch := int64(2); epoch <= 10; epoch++ {
			for _, now := range []int64{last, last + 1, last + 49, last + 50, last + 51, maxTime, last - 1, 0} {
				s := leasing(t, fmt.Sprintf("in vain %v, writes for %d", l.vain, epoch), usual(), span{2, 2})
				for i, e := range l.vain {
					s.says(prepare(e, 1), 101+int64(i))
				}
				if epoch < l.wish && now < last+50 {
					s.says(askWrites(epoch), now)
				} else {
					s.says(askWrites(epoch), now, leased(askWrites(epoch)))
				}
			}
		}
	}
}

// A3, MsgPrepare: nothing else is a wish: not what is promised, nor what is refused, or has no answer for another reason.
func TestNoWish(t *testing.T) {
	for i, m := range []api.Msg{
		prepare(1, 9), prepare(2, 1), prepare(2, 9),
		with(prepare(5, 9), func(m *api.Msg) { m.Ballot = 0 }),
		with(prepare(5, 9), func(m *api.Msg) { m.Plan.Epoch = 5 }),
		with(prepare(5, 9), func(m *api.Msg) { m.HasPlan, m.Plan = false, api.Plan{} }),
		accept(5, 9), askLead(3), with(askLead(3), func(m *api.Msg) { m.Epoch = 7 }), askWrites(1),
	} {
		s := leasing(t, fmt.Sprintf("no wish, %d", i), usual(), span{2, 4})
		s.Handle(m, 101)
		s.says(askWrites(2), 101, leased(askWrites(2)))
		s.says(askWrites(3), 101, leased(askWrites(3)))
	}
	s := leasing(t, "at a low epoch", usual(), span{5, 6})
	s.says(prepare(5, 9), 101, promised(prepare(5, 9)))
	s.says(askWrites(5), 101, leased(askWrites(5)))
	s = leasing(t, "sealed", usual(), span{2, 2})
	s.says(sealed(5, 9), 101, promised(sealed(5, 9)))
	s.says(askWrites(5), 101, leased(askWrites(5)))
	s = leasing(t, "later", usual(), span{2, 2})
	s.says(prepare(5, 9), 125, promised(prepare(5, 9)))
	s.says(askWrites(5), 125, leased(askWrites(5)))
}

// A3, MsgPrepare: a wish stays behind the promise of another epoch, and has no say on its own and later ones.
func TestWishStays(t *testing.T) {
	again := func() scene {
		s := leasing(t, "stays", usual(), span{2, 2})
		s.says(prepare(7, 1), 101)
		s.says(sealed(5, 1), 102, promised(sealed(5, 1)))
		return s
	}
	again().says(askWrites(5), 150)
	again().says(askWrites(5), 151, leased(askWrites(5)))
	again().says(askWrites(6), 150)
	again().says(askWrites(7), 103, leased(askWrites(7)))
	again().says(prepare(6, 1), 103, promised(prepare(6, 1)))
}

// A3, MsgPrepare: the epoch itself, with nothing accepted.
func TestPrepareEqual(t *testing.T) {
	for _, ballot := range []int64{1, 2, 6, 7, 8, 9, 100, math.MaxInt64} {
		s := play(t, fmt.Sprintf("equal, %d", ballot), usual())
		s.says(prepareWith(3, 7, planOf(2, 40)), 0, promised(prepare(3, 7)))
		m := prepareWith(3, ballot, planOf(2, 41))
		if ballot <= 7 {
			s.says(m, 1, nacked(m, 7))
			s.has(3, 7, 0, api.Plan{})
			s.wrote(promiseRecord(3, 7, planOf(2, 40)))
			continue
		}
		s.says(m, 1, promised(m))
		s.has(3, ballot, 0, api.Plan{})
		// The plan that is known stays, and not that of the message.
		s.wrote(promiseRecord(3, 7, planOf(2, 40)), promiseRecord(3, ballot, planOf(2, 40)))
		if p := acceptor.Known(s.Acceptor); !plan.Same(p, planOf(2, 40)) {
			t.Errorf("known is %v", p)
		}
	}
}

// A3, MsgPrepare: the epoch itself, with something accepted, which stays; grants and wishes have no say.
func TestPrepareEqualAccepted(t *testing.T) {
	for _, ballot := range []int64{1, 7, 8, 9, 10, 1000} {
		for _, code := range []int{0, api.CodeSealed} {
			s := busy(t, fmt.Sprintf("accepted, %d", ballot))
			m := with(prepareWith(3, ballot, planOf(2, 41)), func(m *api.Msg) { m.Code = code })
			if ballot <= 8 {
				s.says(m, 12, nacked(m, 8))
				s.wrote(busyRecords()...)
				continue
			}
			s.says(m, 12, promisedWith(m, 7, planOf(3, 1)))
			s.has(3, ballot, 7, planOf(3, 1))
			s.wrote(append(busyRecords(), promiseRecord(3, ballot, planOf(2, 9)))...)
			s.says(prepare(4, 1), 34)
		}
	}
}

// A3, MsgAccept: what has no answer, ahead of everything else.
func TestAcceptRefuses(t *testing.T) {
	for _, epoch := range []int64{2, 3, 4, 9} {
		for i, change := range []func(m *api.Msg){
			func(m *api.Msg) { m.Ballot = 0 },
			func(m *api.Msg) { m.Ballot = -1 },
			func(m *api.Msg) { m.Ballot = math.MinInt64 },
			func(m *api.Msg) { m.HasPlan, m.Plan = false, api.Plan{} },
			func(m *api.Msg) { m.Plan.Epoch = m.Epoch - 1 },
			func(m *api.Msg) { m.Plan.Epoch = m.Epoch + 1 },
			func(m *api.Msg) { m.Plan.Epoch = 0 },
			func(m *api.Msg) { m.Epoch, m.Plan.Epoch = 0, 0 },
			func(m *api.Msg) { m.Epoch = -epoch },
		} {
			untouched(t, fmt.Sprintf("accept %d, wrong %d", epoch, i), gets(with(accept(epoch, 8), change), 40))
		}
	}
	for _, epoch := range []int64{4, 5, 1000, math.MaxInt64} {
		for _, ballot := range []int64{1, 7, 8, 9} {
			untouched(t, "accept above", gets(accept(epoch, ballot), 40))
		}
	}
	s := play(t, "new", usual())
	s.says(accept(1, 1), 0)
	s.says(with(accept(1, 1), func(m *api.Msg) { m.Epoch, m.Plan.Epoch = 0, 0 }), 0)
	s.hasNothing()
	s.wrote()
}

// A3, MsgAccept: an epoch below, whatever the ballot and the Stamp are.
func TestAcceptBelow(t *testing.T) {
	for _, epoch := range []int64{1, 2} {
		for _, ballot := range []int64{1, 7, 8, 9, math.MaxInt64} {
			s := busy(t, "accept below")
			m := acceptOf(ballot, stamped(epoch, maxTime))
			s.says(m, 12, decided(m, planOf(2, 9)))
			s.has(3, 8, 7, planOf(3, 1))
			s.wrote(busyRecords()...)
		}
	}
}

// A3, MsgAccept: a ballot below, at and above the promised one.
func TestAcceptBallots(t *testing.T) {
	for _, ballot := range []int64{1, 2, 6, 7, 8, 9, 10, math.MaxInt64} {
		for _, stamp := range []int64{0, 22, 23, maxTime} {
			s := busy(t, fmt.Sprintf("accept, %d", ballot))
			m := acceptOf(ballot, stamped(3, stamp))
			switch {
			case ballot < 8:
				s.says(m, 12, nacked(m, 8))
			case ballot == 8 && stamp <= 22:
				s.says(m, 12, taken(m))
				s.has(3, 8, 8, stamped(3, stamp))
				s.wrote(append(busyRecords(), acceptedRecord(8, stamped(3, stamp)))...)
				continue
			default:
				s.says(m, 12)
			}
			s.has(3, 8, 7, planOf(3, 1))
			s.wrote(busyRecords()...)
		}
	}
}

// A3, MsgAccept: a Stamp at, and one more than, S greater than now.
func TestAcceptStamps(t *testing.T) {
	for _, c := range configs() {
		for _, now := range []int64{0, 1, 7, 1000, maxTime - c.S - 1, maxTime - c.S, maxTime - 1, maxTime} {
			for _, stamp := range []int64{0, now - 1, now, now + 1, now + c.S - 1, now + c.S, now + c.S + 1, now + 2*c.S + 1, maxTime} {
				if stamp < 0 || stamp > maxTime {
					continue
				}
				s := play(t, fmt.Sprintf("S %d, stamp %d", c.S, stamp), c)
				s.says(prepare(1, 4), 0, promised(prepare(1, 4)))
				m := acceptOf(4, stamped(1, stamp))
				if stamp > now+c.S {
					s.says(m, now)
					s.has(1, 4, 0, api.Plan{})
					s.wrote(promiseRecord(1, 4, planOf(0, 9)))
				} else {
					s.says(m, now, taken(m))
					s.has(1, 4, 4, m.Plan)
					s.wrote(promiseRecord(1, 4, planOf(0, 9)), acceptedRecord(4, m.Plan))
				}
			}
		}
	}
}

// A3, MsgAccept: the same again, and another plan with the same ballot, is accepted and remembered once more.
func TestAcceptAgain(t *testing.T) {
	s := play(t, "again", usual())
	s.says(prepare(1, 4), 0, promised(prepare(1, 4)))
	s.says(accept(1, 4), 0, taken(accept(1, 4)))
	s.says(accept(1, 4), 0, taken(accept(1, 4)))
	s.says(acceptOf(4, planOf(1, 6)), 0, taken(accept(1, 4)))
	s.has(1, 4, 4, planOf(1, 6))
	s.wrote(promiseRecord(1, 4, planOf(0, 9)), acceptedRecord(4, planOf(1, 1)), acceptedRecord(4, planOf(1, 1)), acceptedRecord(4, planOf(1, 6)))
}

// A3, MsgAsk: a Code that is neither for writes nor for the lead.
func TestAskOtherCodes(t *testing.T) {
	for _, code := range []int{0, 3, 4, 9, api.MaxCode} {
		for _, epoch := range []int64{0, 3, 6, 9} {
			for _, from := range []int{3, 4, 6} {
				m := with(askWrites(epoch), func(m *api.Msg) { m.Code, m.From = code, from })
				untouched(t, fmt.Sprintf("code %d", code), gets(m, 100))
			}
		}
	}
}

// A3, MsgAsk for writes: an Epoch below 1, and below the epoch.
func TestAskWritesRefuses(t *testing.T) {
	for _, epoch := range []int64{0, -1, math.MinInt64, 1, 2} {
		untouched(t, "writes below", gets(askWrites(epoch), 100))
	}
	for _, epoch := range []int64{0, -1, math.MinInt64} {
		s := play(t, "new", usual())
		s.says(askWrites(epoch), 0)
		s.wrote()
		s = restored(t, "below 0", usual(), 0, promiseRecord(-9, 1, planOf(0, 0)))
		s.says(askWrites(epoch), 0)
		s.says(askWrites(1), 0, leased(askWrites(1)))
	}
}

// A3, MsgAsk for writes: of a new acceptor, for any epoch.
func TestAskWritesFirst(t *testing.T) {
	for _, epoch := range []int64{1, 2, 3, 1000, math.MaxInt64} {
		for _, now := range []int64{0, 1, 9, maxTime} {
			s := play(t, fmt.Sprintf("writes for %d", epoch), usual())
			s.says(askWrites(epoch), now, leased(askWrites(epoch)))
			s.wrote(writesRecord(6, epoch))
			s.says(askWrites(epoch), now, leased(askWrites(epoch)))
			s.wrote(writesRecord(6, epoch))
			s.hasNothing()
		}
	}
}

// A3, MsgAsk for writes: below, within and above the low and the high epoch: only what widens them is remembered, and it widens them.
func TestAskWritesSpan(t *testing.T) {
	for low := int64(2); low <= 6; low++ {
		for high := low; high <= 6; high++ {
			for epoch := int64(2); epoch <= 8; epoch++ {
				name := fmt.Sprintf("%d to %d, writes for %d", low, high, epoch)
				again := func() scene {
					s := leasing(t, name, usual(), span{low, high})
					n := len(recordsIn(t, s.Journal().Synced()))
					s.says(askWrites(epoch), 101, leased(askWrites(epoch)))
					var want []api.Msg
					if epoch < low || epoch > high {
						want = []api.Msg{writesRecord(6, epoch)}
					}
					if records := recordsIn(t, s.Journal().Synced()); !same(records[n:], want) {
						t.Errorf("%s: records %s, want %s", name, shorts(records[n:]), shorts(want))
					}
					return s
				}
				checkSpan(t, 2, 101, span{min(low, epoch), max(high, epoch)}, again)
			}
		}
	}
}

// A3, MsgAsk for writes: the time of the last grant is that of the last answer, remembered or not, be it earlier than the one before.
func TestAskWritesTime(t *testing.T) {
	for _, epoch := range []int64{2, 3, 4, 5, 6} {
		for _, at := range []int64{0, 99, 100, 101, 110, 10000} {
			for _, now := range []int64{at + 24, at + 25} {
				s := leasing(t, fmt.Sprintf("writes for %d at %d", epoch, at), usual(), span{3, 5})
				s.says(askWrites(epoch), at, leased(askWrites(epoch)))
				held(t, s, prepare(7, 1), now, now == at+25)
			}
		}
	}
	// Where there is no answer, it stays.
	s := leasing(t, "writes for 1", usual(), span{2, 5})
	s.says(askWrites(1), 110)
	s.says(prepare(7, 1), 125, promised(prepare(7, 1)))
	s = leasing(t, "writes against a wish", usual(), span{2, 5})
	s.says(prepare(7, 1), 101)
	s.says(askWrites(6), 110)
	s.says(prepare(7, 1), 125, promised(prepare(7, 1)))
	// What the lead is granted has no part in it.
	s = leasing(t, "lead", usual(), span{2, 5})
	s.says(askLead(3), 110, leased(askLead(3)))
	s.says(prepare(7, 1), 125, promised(prepare(7, 1)))
}

// A3, MsgAsk for writes: below the wish, for 2 (L + M).
func TestAskWritesWish(t *testing.T) {
	for _, c := range configs() {
		wait := c.L + c.M
		for epoch := int64(2); epoch <= 9; epoch++ {
			for _, l := range []struct {
				now  int64
				over bool
			}{{100, false}, {100 + 2*wait - 1, false}, {100 + 2*wait, true}, {100 + 2*wait + 1, true}, {maxTime, true}, {0, false}} {
				s := leasing(t, fmt.Sprintf("L + M %d, writes for %d", wait, epoch), c, span{3, 5})
				s.says(prepare(7, 1), 100)
				held(t, s, askWrites(epoch), l.now, l.over || epoch >= 7)
			}
		}
	}
}

// A3, MsgAsk for writes: after a wish in vain, what is not answered is not remembered.
func TestAskWritesAgainstWish(t *testing.T) {
	s := leasing(t, "against a wish", usual(), span{3, 5})
	n := len(recordsIn(t, s.Journal().Synced()))
	s.says(prepare(8, 1), 100)
	s.says(askWrites(2), 101)
	s.says(askWrites(7), 101)
	if len(recordsIn(t, s.Journal().Synced())) != n {
		t.Error("it wrote")
	}
	s.says(askWrites(7), 150, leased(askWrites(7)))
	s.says(askWrites(2), 150, leased(askWrites(2)))
	if records := recordsIn(t, s.Journal().Synced()); !same(records[n:], []api.Msg{writesRecord(6, 7), writesRecord(6, 2)}) {
		t.Errorf("records %s", shorts(records[n:]))
	}
}

// A3, MsgAsk: the answer has the Epoch, the Code and the Nonce of the message, whatever these numbers are.
func TestAskNonces(t *testing.T) {
	for _, nonce := range []int64{0, 1, -1, 1 << 40, math.MinInt64, math.MaxInt64} {
		for _, epoch := range []int64{0, 1, -5, math.MinInt64, math.MaxInt64} {
			m := with(askLead(3), func(m *api.Msg) { m.Nonce, m.Epoch = nonce, epoch })
			s := play(t, "nonce", usual())
			s.says(m, 5, leased(m))
			s.wrote(leadRecord(3))
			m = with(m, func(m *api.Msg) { m.Code = api.CodeWrite })
			held(t, play(t, "nonce", usual()), m, 5, epoch >= 1)
		}
	}
}

// A3, MsgAsk for the lead: no leader, the same one, and another one, about L + M after its last grant.
func TestAskLead(t *testing.T) {
	for _, c := range configs() {
		wait := c.L + c.M
		for _, now := range []int64{100, 101, 0, 100 + wait - 1, 100 + wait, 100 + wait + 1, maxTime} {
			again := func() scene {
				s := play(t, fmt.Sprintf("L + M %d", wait), c)
				s.says(askLead(3), 100, leased(askLead(3)))
				s.wrote(leadRecord(3))
				return s
			}
			s := again()
			s.says(askLead(3), now, leased(askLead(3)))
			s.wrote(leadRecord(3))
			for _, from := range []int{0, 2, 4, api.MaxNode} {
				s = again()
				if now < 100+wait {
					s.says(askLead(from), now)
					s.wrote(leadRecord(3))
					s.says(askLead(3), now, leased(askLead(3)))
					s.wrote(leadRecord(3))
				} else {
					s.says(askLead(from), now, leased(askLead(from)))
					s.wrote(leadRecord(3), leadRecord(from))
					s.says(askLead(3), now)
					s.says(askLead(from), now, leased(askLead(from)))
					s.wrote(leadRecord(3), leadRecord(from))
				}
				s.hasNothing()
			}
		}
	}
}

// A3, MsgAsk for the lead: each grant counts from its own time, and what is not granted has none; node 0 can lead, too.
func TestAskLeadTime(t *testing.T) {
	s := play(t, "lead", usual())
	s.says(askLead(0), 100, leased(askLead(0)))
	s.says(askLead(0), 110, leased(askLead(0)))
	s.says(askLead(3), 125)
	s.says(askLead(3), 134)
	s.says(askLead(3), 135, leased(askLead(3)))
	s.says(askLead(0), 136)
	s.says(askLead(3), 120, leased(askLead(3)))
	s.says(askLead(0), 144)
	s.says(askWrites(1), 144, leased(askWrites(1)))
	s.says(askLead(0), 145, leased(askLead(0)))
	s.wrote(leadRecord(0), leadRecord(3), writesRecord(6, 1), leadRecord(0))
}

// A3, MsgAsk for the lead: one that is not known, as behind a Restart, is another one for everybody.
func TestAskLeadUnknown(t *testing.T) {
	for _, c := range configs() {
		wait := c.L + c.M
		for _, from := range []int{0, 3, 4, api.MaxNode} {
			for _, now := range []int64{200, 201, 0, 200 + wait - 1, 200 + wait, 200 + wait + 1, maxTime} {
				s := play(t, fmt.Sprintf("L + M %d, restarted", wait), c)
				s.says(askLead(3), 100, leased(askLead(3)))
				s.Journal().Crash(0)
				s.restarts(200)
				if now < 200+wait {
					s.says(askLead(from), now)
					s.wrote(leadRecord(3))
				} else {
					s.says(askLead(from), now, leased(askLead(from)))
					s.wrote(leadRecord(3), leadRecord(from))
				}
			}
		}
	}
}

// A3: to remember: with a fuse that blows at the Append, or at the Sync, there is no answer, and nothing is done.
func TestRememberFails(t *testing.T) {
	for _, q := range questions() {
		for fuse := range 4 {
			name := fmt.Sprintf("%s, fuse %d", q.name, fuse)
			s := busy(t, name)
			s.Journal().Fuse(fuse)
			if len(q.records) == 0 || fuse >= 2 {
				s.says(q.m, q.now, q.answer)
				s.wrote(slices.Concat(busyRecords(), q.records)...)
				continue
			}
			for _, after := range busyQuestions() {
				s, other := busy(t, name), busy(t, name)
				s.Journal().Fuse(fuse)
				s.says(q.m, q.now)
				s.has(3, 8, 7, planOf(3, 1))
				if !s.Journal().Down() || !slices.Equal(s.Journal().Synced(), framed(busyRecords()...)) || fuse == 1 && !slices.Equal(s.Journal().Tail(), framed(q.records...)) {
					t.Errorf("%s: down %v, tail %x", name, s.Journal().Down(), s.Journal().Tail())
				}
				s.Journal().Open()
				s.says(after.m, after.now, other.Handle(after.m, after.now)...)
			}
		}
	}
}

// A3: what was not synced may come back by a crash, or not; what was is there.
func TestRememberAndCrash(t *testing.T) {
	for _, q := range questions() {
		if len(q.records) == 0 {
			continue
		}
		size := len(framed(q.records...))
		for fuse := range 3 {
			for _, keep := range []int{0, 1, size - 1, size, size + 1} {
				s := busy(t, fmt.Sprintf("%s, fuse %d, %d bytes kept", q.name, fuse, keep))
				s.Journal().Fuse(fuse)
				s.Handle(q.m, q.now)
				s.Journal().Crash(keep)
				s.restarts(q.now)
				if fuse == 2 || fuse == 1 && keep >= size {
					s.wrote(slices.Concat(busyRecords(), q.records)...)
				} else {
					s.wrote(busyRecords()...)
					s.has(3, 8, 7, planOf(3, 1))
				}
			}
		}
	}
}

// Rule P3: neither the message nor its lists are changed, with their spare capacity.
func TestHandleLeavesTheMessage(t *testing.T) {
	for _, q := range questions() {
		pen, changes := []int{9, 7, 55, 56}, []int64{4, 5, 57, 58}
		m := with(q.m, func(m *api.Msg) {
			m.ID, m.Session, m.Payload = []int64{1, 2, 3, 59}[:3], []byte("session")[:3], []byte("payload")[:3]
			if m.HasPlan {
				m.Plan.Pen, m.Plan.Changes = pen[:2], changes[:2]
			}
		})
		before := with(m, func(m *api.Msg) { m.Plan.Pen, m.Plan.Changes = slices.Clone(m.Plan.Pen), slices.Clone(m.Plan.Changes) })
		s := busy(t, q.name)
		s.Handle(m, q.now)
		s.Handle(prepare(9, 9), 1000)
		s.restarts(1001)
		if !msg.Same(m, before) || !slices.Equal(pen, []int{9, 7, 55, 56}) || !slices.Equal(changes, []int64{4, 5, 57, 58}) ||
			m.ID[:4][3] != 59 || string(m.Session[:7]) != "session" || string(m.Payload[:7]) != "payload" {
			t.Errorf("%s: it is now %+v", q.name, m)
		}
	}
}

// Rule P3: the lists of answers are not each other's memory.
func TestAnswersAreApart(t *testing.T) {
	for _, q := range questions() {
		if len(q.records) > 0 {
			continue
		}
		s := busy(t, q.name)
		first := s.Handle(q.m, q.now)
		_ = append(first, api.Msg{})
		first[0].Epoch = -1
		s.says(q.m, q.now, q.answer)
	}
}
