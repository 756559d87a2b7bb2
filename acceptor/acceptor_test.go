package acceptor_test

import (
	"fmt"
	"math"
	"slices"
	"testing"

	"locum/acceptor"
	"locum/api"
	"locum/plan"
	"locum/policy"
)

// Promise P15.1: New, Journal, State and Restart.

// spoilt are configs that are not valid, each for one reason.
func spoilt() []api.Config {
	l := []api.Config{{}}
	for _, change := range []func(c *api.Config){
		func(c *api.Config) { c.F = -1 },
		func(c *api.Config) { c.F = 4 },
		func(c *api.Config) { c.Deciders = 0 },
		func(c *api.Config) { c.Targets = 3 },
		func(c *api.Config) { c.Tiers = nil },
		func(c *api.Config) { c.Tiers = []int{1, 16} },
		func(c *api.Config) { c.L = 0 },
		func(c *api.Config) { c.L = 1<<20 + 1 },
		func(c *api.Config) { c.M = -1 },
		func(c *api.Config) { c.M = 1<<20 + 1 },
		func(c *api.Config) { c.S = 0 },
		func(c *api.Config) { c.S = 1<<20 + 1 },
		func(c *api.Config) { c.Reuse = c.Suppress },
		func(c *api.Config) { c.Tries = 21 },
	} {
		c := usual()
		change(&c)
		l = append(l, c)
	}
	return l
}

// A1: New refuses a config that is not valid, and a node that there can't be.
func TestNewRefuses(t *testing.T) {
	for _, c := range spoilt() {
		if policy.Right(c) {
			t.Fatalf("%+v is valid", c)
		}
		for _, node := range []int{-1, 0, self, api.MaxNode, api.MaxNode + 1} {
			if acceptor.New(c, node) != nil {
				t.Errorf("New(%+v, %d) is not nil", c, node)
			}
		}
	}
	for _, c := range configs() {
		for _, node := range []int{-1, -2, -255, math.MinInt, api.MaxNode + 1, api.MaxNode + 2, 1 << 32, 1<<32 + 1, math.MaxInt} {
			if acceptor.New(c, node) != nil {
				t.Errorf("New(%+v, %d) is not nil", c, node)
			}
		}
		for _, node := range []int{0, 1, 2, 3, 127, 128, api.MaxNode - 1, api.MaxNode} {
			if acceptor.New(c, node) == nil {
				t.Errorf("New(%+v, %d) is nil", c, node)
			}
		}
	}
}

// A1: a new acceptor has nothing, and its answers are from its node.
func TestNewIsInitial(t *testing.T) {
	for _, c := range configs() {
		for _, node := range []int{0, 1, 200, api.MaxNode} {
			s := scene{t, "new", acceptor.New(c, node)}
			s.hasNothing()
			s.wrote()
			if s.Journal().Down() {
				t.Error("down")
			}
			m := prepare(1, 1)
			s.says(m, 0, with(promised(m), func(m *api.Msg) { m.From = node }))
		}
	}
}

// A1: without a fuse, a hundred records are remembered.
func TestNewHasNoFuse(t *testing.T) {
	s := play(t, "new", usual())
	for ballot := range int64(100) {
		m := prepare(1, ballot+1)
		s.says(m, 0, promised(m))
	}
}

// A1: the known plan is policy.Zero at first, and again behind a Restart.
func TestKnownAtFirst(t *testing.T) {
	for _, c := range configs() {
		s := play(t, "known", c)
		if p := acceptor.Known(s.Acceptor); !plan.Same(p, policy.Zero(c)) {
			t.Errorf("known is %v", p)
		}
		s.says(prepare(3, 1), 0, promised(prepare(3, 1)))
		if p := acceptor.Known(s.Acceptor); !plan.Same(p, planOf(2, 9)) {
			t.Errorf("known is %v", p)
		}
		s.Journal().Crash(0)
		s.restarts(0)
		if p := acceptor.Known(s.Acceptor); !plan.Same(p, planOf(2, 9)) {
			t.Errorf("restored, known is %v", p)
		}
		fresh := restored(t, "known", c, 0)
		if p := acceptor.Known(fresh.Acceptor); !plan.Same(p, policy.Zero(c)) {
			t.Errorf("restarted with nothing, known is %v", p)
		}
	}
}

// A1: two acceptors share nothing.
func TestAcceptorsAreApart(t *testing.T) {
	one, other := play(t, "one", usual()), play(t, "other", usual())
	one.says(prepare(2, 7), 0, promised(prepare(2, 7)))
	one.says(askLead(3), 0, leased(askLead(3)))
	other.hasNothing()
	other.wrote()
	other.says(askLead(4), 0, leased(askLead(4)))
}

// Rule P3: the config's list is neither changed nor kept.
func TestConfigIsNotKept(t *testing.T) {
	tiers := []int{1, 0, 9, 9}
	c := usual()
	c.Tiers = tiers[:2]
	s := play(t, "config", c)
	s.says(prepare(2, 7), 0, promised(prepare(2, 7)))
	s.restarts(5)
	if !slices.Equal(tiers, []int{1, 0, 9, 9}) {
		t.Errorf("tiers are %v", tiers)
	}
	s = play(t, "config", c)
	tiers[0] = 16 // there is no zero plan of such a config
	s.restarts(0)
	if p := acceptor.Known(s.Acceptor); !plan.Same(p, policy.Zero(usual())) {
		t.Errorf("behind a change of what was passed, known is %v", p)
	}
}

// A1: State has the accepted ballot and plan, which another epoch ends.
func TestState(t *testing.T) {
	s := play(t, "state", usual())
	s.says(prepare(1, 5), 0, promised(prepare(1, 5)))
	s.has(1, 5, 0, api.Plan{})
	s.says(accept(1, 5), 0, taken(accept(1, 5)))
	s.has(1, 5, 5, planOf(1, 1))
	m := prepare(1, 9)
	s.says(m, 0, promisedWith(m, 5, planOf(1, 1)))
	s.has(1, 9, 5, planOf(1, 1))
	s.says(acceptOf(9, planOf(1, 2)), 0, taken(acceptOf(9, planOf(1, 2))))
	s.has(1, 9, 9, planOf(1, 2))
	s.says(prepare(2, 3), 0, promised(prepare(2, 3)))
	s.has(2, 3, 0, api.Plan{})
	s.says(prepare(4, 2), 0, promised(prepare(4, 2)))
	s.has(4, 2, 0, api.Plan{})
}

// A1: with an accepted ballot of 0 there is no plan, be it that a record has one.
func TestStateWithoutBallot(t *testing.T) {
	s := restored(t, "ballot 0", usual(), 0, promiseRecord(3, 4, planOf(2, 0)), acceptedRecord(0, planOf(3, 1)))
	s.has(3, 0, 0, api.Plan{})
	s.says(prepare(3, 1), 0, promised(prepare(3, 1)))
	s = restored(t, "ballot below 0", usual(), 0, promiseRecord(3, 4, planOf(2, 0)), acceptedRecord(-7, planOf(3, 1)))
	s.has(3, -7, -7, planOf(3, 1))
	s.says(prepare(3, 1), 0, promisedWith(prepare(3, 1), -7, planOf(3, 1)))
}

// A1: the journal that is returned is the one that is written to, and restored, before a Restart and after it.
func TestJournal(t *testing.T) {
	s := play(t, "journal", usual())
	j := s.Journal()
	s.says(prepare(2, 7), 0, promised(prepare(2, 7)))
	s.wrote(promiseRecord(2, 7, planOf(1, 9)))
	s.restarts(1)
	s.put(acceptedRecord(7, planOf(2, 1)))
	s.has(2, 7, 0, api.Plan{})
	s.restarts(2)
	s.has(2, 7, 7, planOf(2, 1))
	s.says(accept(2, 7), 0, taken(accept(2, 7)))
	s.wrote(promiseRecord(2, 7, planOf(1, 9)), acceptedRecord(7, planOf(2, 1)), acceptedRecord(7, planOf(2, 1)))
	if s.Journal() != j {
		t.Error("it is another one")
	}
	s.Journal().Crash(0)
	s.says(prepare(2, 8), 0)
}

// busy is an acceptor with something of everything: epoch 3, promised 8, accepted 7, writes granted for 3 to 4 at 10, a wish for 6 at 11, a leader 3 since 12.
func busy(t *testing.T, name string) scene {
	t.Helper()
	s := play(t, name, usual())
	s.says(prepare(3, 7), 9, promised(prepare(3, 7)))
	s.says(accept(3, 7), 9, taken(accept(3, 7)))
	s.says(prepare(3, 8), 9, promisedWith(prepare(3, 8), 7, planOf(3, 1)))
	s.says(askWrites(3), 10, leased(askWrites(3)))
	s.says(askWrites(4), 10, leased(askWrites(4)))
	s.says(prepare(6, 1), 11)
	s.says(askLead(3), 12, leased(askLead(3)))
	return s
}

// busyRecords are what it has in its journal.
func busyRecords() []api.Msg {
	return []api.Msg{
		promiseRecord(3, 7, planOf(2, 9)), acceptedRecord(7, planOf(3, 1)), promiseRecord(3, 8, planOf(2, 9)),
		writesRecord(6, 3), writesRecord(6, 4), leadRecord(3),
	}
}

// busyQuestions are messages by which a busy acceptor, a restored one, and one with nothing can be told from each other, and its parts one by one.
func busyQuestions() []event {
	return []event{
		gets(prepare(2, 99), 12), gets(prepare(3, 8), 12), gets(prepare(3, 9), 12), gets(prepare(4, 1), 12), gets(prepare(4, 1), 34), gets(prepare(4, 1), 35),
		gets(accept(2, 9), 12), gets(accept(3, 8), 12), gets(accept(3, 7), 12),
		gets(askWrites(3), 12), gets(askWrites(4), 12), gets(askWrites(5), 12), gets(askWrites(5), 60), gets(askWrites(5), 61), gets(askWrites(6), 12), gets(askWrites(7), 12),
		gets(askLead(3), 12), gets(askLead(4), 36), gets(askLead(4), 37), gets(askLead(4), 12),
	}
}

// A2: everything is as it was, but the wish, who leads, and the times of the last grants.
func TestRestart(t *testing.T) {
	s := busy(t, "busy")
	s.wrote(busyRecords()...)
	for _, crash := range []bool{false, true} {
		for _, now := range []int64{0, 12, 100, maxTime} {
			name := fmt.Sprintf("crash %v, restarted at %d", crash, now)
			again := func() scene {
				s := busy(t, name)
				if crash {
					s.Journal().Crash(math.MaxInt)
				}
				s.restarts(now)
				s.has(3, 8, 7, planOf(3, 1))
				return s
			}
			again().wrote(busyRecords()...)
			again().says(prepare(2, 99), 0, decided(prepare(2, 99), planOf(2, 9)))
			again().says(prepare(4, 1), now)
			again().says(askWrites(3), now, leased(askWrites(3)))
			again().says(askWrites(5), now, leased(askWrites(5)))
			again().says(askLead(3), now)
			again().says(askLead(4), now)
		}
	}
}

// A2: the times of the last grants are that of the Restart, for the lead as for writes, be it any number.
func TestRestartTimes(t *testing.T) {
	records := []api.Msg{promiseRecord(1, 1, planOf(0, 0)), writesRecord(5, 1), leadRecord(3)}
	for _, c := range configs() {
		wait := c.L + c.M
		for _, at := range []int64{0, 1, 2, 1000, maxTime - 2*wait} {
			for _, l := range []struct {
				now  int64
				over bool
			}{{0, false}, {at, false}, {at + wait - 1, false}, {at + wait, true}, {at + wait + 1, true}, {maxTime, true}} {
				name := fmt.Sprintf("L + M %d, restarted at %d", wait, at)
				held(t, restored(t, name, c, at, records...), prepare(2, 1), l.now, l.over)
				held(t, restored(t, name, c, at, records...), askLead(3), l.now, l.over)
				held(t, restored(t, name, c, at, records...), askLead(4), l.now, l.over)
			}
		}
		for _, at := range []int64{-1 << 40, math.MinInt64, math.MinInt64 + 1, -wait} {
			name := fmt.Sprintf("L + M %d, restarted at %d", wait, at)
			held(t, restored(t, name, c, at, records...), prepare(2, 1), 0, true)
			held(t, restored(t, name, c, at, records...), askLead(3), 0, true)
		}
		for _, at := range []int64{maxTime, maxTime + 1, math.MaxInt64 - wait, math.MaxInt64 - 1, math.MaxInt64} {
			name := fmt.Sprintf("L + M %d, restarted at %d", wait, at)
			held(t, restored(t, name, c, at, records...), prepare(2, 1), maxTime, false)
			held(t, restored(t, name, c, at, records...), askLead(3), maxTime, false)
		}
	}
}

// held holds whether a message is answered by what it asks for.
func held(t *testing.T, s scene, m api.Msg, now int64, over bool) {
	t.Helper()
	switch {
	case !over:
		s.says(m, now)
	case m.Kind == api.MsgPrepare:
		s.says(m, now, promised(m))
	default:
		s.says(m, now, leased(m))
	}
}

// A2: without a grant nothing waits behind a Restart.
func TestRestartWithoutGrants(t *testing.T) {
	for _, at := range []int64{0, 50, maxTime} {
		s := restored(t, "no grants", usual(), at, promiseRecord(1, 1, planOf(0, 0)))
		s.says(prepare(2, 1), 0, promised(prepare(2, 1)))
		s.says(askLead(3), 0, leased(askLead(3)))
		s = restored(t, "a leader", usual(), at, leadRecord(3))
		s.says(prepare(2, 1), 0, promised(prepare(2, 1)))
		s = restored(t, "writes", usual(), at, writesRecord(5, 1))
		s.says(askLead(3), 0, leased(askLead(3)))
		s = restored(t, "writes below", usual(), at, writesRecord(5, 1), promiseRecord(2, 1, planOf(1, 0)))
		s.says(prepare(3, 1), 0, promised(prepare(3, 1)))
	}
}

// A2: a wish is forgotten.
func TestRestartForgetsTheWish(t *testing.T) {
	wishing := func() scene {
		s := play(t, "wish", usual())
		s.says(askWrites(1), 10, leased(askWrites(1)))
		s.says(prepare(3, 1), 11)
		return s
	}
	wishing().says(askWrites(2), 12)
	s := wishing()
	s.restarts(12)
	s.says(askWrites(2), 12, leased(askWrites(2)))
}

// A2: what is not synced, and what a crash keeps of it: the records that are whole.
func TestRestartBehindCrash(t *testing.T) {
	first := []api.Msg{promiseRecord(2, 4, planOf(1, 0)), writesRecord(5, 2)}
	tail := []api.Msg{acceptedRecord(4, planOf(2, 1)), promiseRecord(2, 6, planOf(1, 0)), writesRecord(5, 3), promiseRecord(3, 2, planOf(2, 1)), leadRecord(4)}
	for keep := -1; keep <= len(framed(tail...))+1; keep++ {
		whole := 0
		for whole < len(tail) && len(framed(tail[:whole+1]...)) <= keep {
			whole++
		}
		s := play(t, fmt.Sprintf("%d bytes, %d records kept", keep, whole), usual())
		s.put(first...)
		for _, r := range tail {
			s.Journal().Append(byte(r.Kind), bodyOf(r))
		}
		s.Journal().Crash(keep)
		s.says(prepare(2, 9), 50)
		s.hasNothing()
		s.restarts(50)
		s.wrote(slices.Concat(first, tail[:whole])...)
		switch whole {
		case 0:
			s.has(2, 4, 0, api.Plan{})
		case 1:
			s.has(2, 4, 4, planOf(2, 1))
		case 2, 3:
			s.has(2, 6, 4, planOf(2, 1))
		default:
			s.has(3, 2, 0, api.Plan{})
		}
	}
}

// A2: a journal that can't be opened: its error, and nothing is left but what a new acceptor has, till it can be.
func TestRestartFails(t *testing.T) {
	failed := func() scene {
		s := busy(t, "failed")
		s.Journal().Append(byte(api.MsgLease), bodyOf(leadRecord(4)))
		s.Journal().Crash(3)
		s.Journal().Fuse(0)
		if err := s.Restart(13); err != api.ErrDown {
			t.Errorf("Restart: %v", err)
		}
		if !s.Journal().Down() {
			t.Error("it is up")
		}
		s.hasNothing()
		return s
	}
	if p := acceptor.Known(failed().Acceptor); !plan.Same(p, policy.Zero(usual())) {
		t.Errorf("known is %v", p)
	}
	for _, e := range busyQuestions() {
		failed().says(e.m, e.now)
		// Without a Restart, an open journal shows what the acceptor itself has: nothing.
		s, fresh := failed(), play(t, "fresh", usual())
		s.Journal().Open()
		s.says(e.m, e.now, fresh.Handle(e.m, e.now)...)
	}
	s := failed()
	s.restarts(14)
	s.has(3, 8, 7, planOf(3, 1))
	s.wrote(busyRecords()...)
}

// A2: records that are no messages are passed over, and those of other kinds, and leases of other codes, change nothing.
func TestRestartPassesOver(t *testing.T) {
	body, lease := bodyOf(promiseRecord(9, 9, planOf(8, 0))), bodyOf(writesRecord(3, 9))
	again := func() scene {
		s := play(t, "passed over", usual())
		s.lay(byte(api.MsgPromise), nil)
		s.put(promiseRecord(2, 4, planOf(1, 0)))
		s.lay(byte(api.MsgPromise), body[:len(body)-1])
		s.lay(byte(api.MsgPromise), append(slices.Clone(body), 0))
		for _, kind := range []byte{0, byte(api.MaxKind) + 1, 255} {
			s.lay(kind, body)
		}
		s.put(acceptedRecord(4, planOf(2, 1)))
		s.lay(byte(api.MsgAccepted), []byte("no message"))
		s.lay(byte(api.MsgLease), lease[1:])
		for kind := api.MsgProbe; kind <= api.MaxKind; kind++ {
			if kind != api.MsgPromise && kind != api.MsgAccepted && kind != api.MsgLease {
				s.lay(byte(kind), body)
				s.lay(byte(kind), lease)
				s.lay(byte(kind), bodyOf(leadRecord(3)))
			}
		}
		for _, code := range []int{0, 3, 4, api.MaxCode} {
			s.put(with(writesRecord(3, 9), func(m *api.Msg) { m.Code = code }))
		}
		s.put(writesRecord(6, 2))
		s.restarts(10)
		s.has(2, 4, 4, planOf(2, 1))
		return s
	}
	again().says(askLead(3), 10, leased(askLead(3)))
	again().says(prepare(2, 5), 10, promisedWith(prepare(2, 5), 4, planOf(2, 1)))
	for epoch := int64(3); epoch < 12; epoch++ {
		again().says(prepare(epoch, 1), 34)
		again().says(prepare(epoch, 1), 35, promised(prepare(epoch, 1)))
	}
}

// A2: of a record only the fields that it has count.
func TestRestartReadsItsFields(t *testing.T) {
	noise := func(m *api.Msg) {
		m.To, m.Accepted, m.Nonce, m.Time, m.Up = 8, 5, 6, 7, 3
		m.ID, m.Session, m.Payload = []int64{1, 2, 3}, []byte("s"), []byte("p")
	}
	s := restored(t, "fields", usual(), 10,
		with(promiseRecord(2, 4, planOf(1, 0)), noise), with(acceptedRecord(4, planOf(2, 1)), noise),
		with(writesRecord(6, 2), noise), with(leadRecord(4), noise),
		with(leadRecord(4), func(m *api.Msg) { m.Epoch = 9 }))
	s.has(2, 4, 4, planOf(2, 1))
	s.says(prepare(3, 1), 34)
	s.says(askLead(4), 34)
	s.says(prepare(1, 1), 34, decided(prepare(1, 1), planOf(1, 0)))
	s.says(prepare(3, 1), 35, promised(prepare(3, 1)))
}

// Types: a MsgPromise of the same epoch keeps what is accepted, one of another epoch ends it.
func TestReplayPromise(t *testing.T) {
	before := []api.Msg{promiseRecord(3, 7, planOf(2, 0)), acceptedRecord(7, planOf(3, 1))}
	for _, l := range []struct {
		epoch, ballot int64
		kept          bool
	}{{3, 9, true}, {3, 7, true}, {3, 2, true}, {3, 0, true}, {2, 9, false}, {4, 9, false}, {4, 1, false}, {0, 7, false}, {-3, 7, false}, {1 << 60, 7, false}} {
		name := fmt.Sprintf("epoch %d, ballot %d", l.epoch, l.ballot)
		s := restored(t, name, usual(), 0, append(before, promiseRecord(l.epoch, l.ballot, planOf(8, 5)))...)
		if l.kept {
			s.has(l.epoch, l.ballot, 7, planOf(3, 1))
		} else {
			s.has(l.epoch, l.ballot, 0, api.Plan{})
		}
		if p := acceptor.Known(s.Acceptor); !plan.Same(p, planOf(8, 5)) {
			t.Errorf("%s: known is %v", name, p)
		}
	}
}

// Types: a record without a plan has that of all zeros.
func TestReplayWithoutPlan(t *testing.T) {
	s := restored(t, "no plan", usual(), 0, promiseRecord(3, 7, planOf(2, 0)), api.Msg{Kind: api.MsgPromise, Epoch: 4, Ballot: 2}, api.Msg{Kind: api.MsgAccepted, Epoch: 4, Ballot: 2})
	s.has(4, 2, 2, api.Plan{})
	s.says(prepare(3, 1), 0, decided(prepare(3, 1), api.Plan{}))
	s.says(prepare(4, 3), 0, promisedWith(prepare(4, 3), 2, api.Plan{}))
}

// Types: a MsgAccepted makes its ballot both the promised one and the accepted one, be it less than before.
func TestReplayAccepted(t *testing.T) {
	for _, ballot := range []int64{1, 6, 7, 8, math.MaxInt64} {
		s := restored(t, fmt.Sprintf("ballot %d", ballot), usual(), 0, promiseRecord(3, 7, planOf(2, 0)), acceptedRecord(7, planOf(3, 4)), acceptedRecord(ballot, planOf(3, 1)))
		s.has(3, ballot, ballot, planOf(3, 1))
	}
	// Its Epoch does not matter, only its plan does.
	s := restored(t, "another epoch", usual(), 0, promiseRecord(3, 7, planOf(2, 0)), acceptedRecord(5, planOf(9, 1)))
	s.has(3, 5, 5, planOf(9, 1))
}

// span is a low and a high epoch.
type span struct{ low, high int64 }

// granted are the records of a span.
func (g span) granted() []api.Msg {
	if g == (span{}) {
		return nil
	}
	return []api.Msg{writesRecord(5, g.low), writesRecord(6, g.high)}
}

// checkSpan holds the span of an acceptor at an epoch, as far as anybody can see it: which epochs have to wait, and which grants are remembered. It is made anew for each question, and was restarted at now.
func checkSpan(t *testing.T, epoch int64, now int64, want span, again func() scene) {
	t.Helper()
	for e := max(epoch, 1); e < 12; e++ {
		s, m := again(), askWrites(e)
		n := len(recordsIn(t, s.Journal().Synced()))
		s.says(m, now, leased(m))
		records := recordsIn(t, s.Journal().Synced())[n:]
		inside := want.low != 0 && want.low <= e && e <= want.high
		if inside && len(records) != 0 || !inside && !same(records, []api.Msg{writesRecord(6, e)}) {
			t.Errorf("%s: grant of %d: records %s, want the span %v", s.name, e, shorts(records), want)
		}
		if e > epoch {
			held(t, again(), prepare(e, 1), now, want.low == 0 || want.low >= e)
		}
	}
}

// Types: what becomes of the low and the high epoch where a MsgPromise has another epoch, and where it has the same one.
func TestReplayPromiseAndGrants(t *testing.T) {
	for low := int64(1); low <= 6; low++ {
		for high := low; high <= 6; high++ {
			for epoch := int64(1); epoch <= 8; epoch++ {
				g := span{low, high}
				want := span{max(low, epoch), high}
				if high < epoch {
					want = span{}
				}
				name := fmt.Sprintf("%v, and epoch %d", g, epoch)
				checkSpan(t, epoch, 40, want, func() scene {
					return restored(t, name, usual(), 40, append(g.granted(), promiseRecord(epoch, 1, planOf(epoch-1, 0)))...)
				})
				// The epoch is there already: nothing is taken from the span.
				name = fmt.Sprintf("epoch %d, %v, and the epoch again", epoch, g)
				checkSpan(t, epoch, 40, g, func() scene {
					return restored(t, name, usual(), 40, slices.Concat([]api.Msg{promiseRecord(epoch, 1, planOf(epoch-1, 0))}, g.granted(), []api.Msg{promiseRecord(epoch, 2, planOf(epoch-1, 0))})...)
				})
			}
		}
	}
	for epoch := int64(0); epoch <= 3; epoch++ {
		checkSpan(t, epoch, 40, span{}, func() scene {
			return restored(t, "no grants", usual(), 40, promiseRecord(5, 1, planOf(4, 0)), promiseRecord(epoch, 1, planOf(7, 0)))
		})
	}
}

// Types: an epoch that comes back finds what is left of the span.
func TestReplayPromiseBelow(t *testing.T) {
	checkSpan(t, 2, 40, span{4, 6}, func() scene {
		return restored(t, "back", usual(), 40, writesRecord(5, 3), writesRecord(5, 6), promiseRecord(4, 1, planOf(3, 0)), promiseRecord(2, 1, planOf(1, 0)))
	})
	checkSpan(t, 0, 40, span{4, 6}, func() scene {
		return restored(t, "back to 0", usual(), 40, promiseRecord(4, 1, planOf(3, 0)), writesRecord(5, 4), writesRecord(5, 6), promiseRecord(0, 1, planOf(1, 0)))
	})
}

// Types: a grant below, within and above the low and the high epoch, and the first one.
func TestReplayGrants(t *testing.T) {
	for low := int64(1); low <= 5; low++ {
		for high := low; high <= 5; high++ {
			for epoch := int64(1); epoch <= 6; epoch++ {
				g := span{low, high}
				name := fmt.Sprintf("%v, and %d", g, epoch)
				checkSpan(t, 0, 40, span{min(low, epoch), max(high, epoch)}, func() scene {
					return restored(t, name, usual(), 40, append(g.granted(), writesRecord(9, epoch))...)
				})
			}
		}
	}
	for epoch := int64(1); epoch <= 6; epoch++ {
		checkSpan(t, 0, 40, span{epoch, epoch}, func() scene { return restored(t, "first", usual(), 40, writesRecord(9, epoch)) })
	}
}

// Types: records that no acceptor writes, of epochs below 1, are taken by their words too: only a low epoch of 0 is none, and only with a high one of 0 it is replaced.
func TestReplayGrantsBelow(t *testing.T) {
	odd := []api.Msg{writesRecord(5, -5), writesRecord(5, 3), promiseRecord(-1, 1, planOf(0, 0)), promiseRecord(0, 1, planOf(0, 0))}
	for _, l := range []struct {
		name    string
		records []api.Msg
		want    span
	}{
		{"-1", []api.Msg{writesRecord(5, -1)}, span{-1, -1}},
		{"-5", []api.Msg{writesRecord(5, -5)}, span{-5, -5}},
		{"-5, 0", []api.Msg{writesRecord(5, -5), writesRecord(5, 0)}, span{-5, 0}},
		{"-5, 4", []api.Msg{writesRecord(5, -5), writesRecord(5, 4)}, span{-5, 4}},
		{"-5, 0, 2", []api.Msg{writesRecord(5, -5), writesRecord(5, 0), writesRecord(5, 2)}, span{-5, 2}},
		{"0", []api.Msg{writesRecord(5, 0)}, span{}},
		{"0, 3", []api.Msg{writesRecord(5, 0), writesRecord(5, 3)}, span{3, 3}},
		{"0 to 3", odd, span{0, 3}},
		{"0 to 3, 2", append(odd, writesRecord(5, 2)), span{0, 3}},
		{"0 to 3, 5", append(odd, writesRecord(5, 5)), span{0, 5}},
		{"0 to 3, -2", append(odd, writesRecord(5, -2)), span{-2, 3}},
	} {
		checkSpan(t, 0, 40, l.want, func() scene { return restored(t, l.name, usual(), 40, l.records...) })
	}
}

// Types: a grant of the lead: there is a leader, and nobody is it.
func TestReplayLead(t *testing.T) {
	for _, from := range []int{0, 3, 4, api.MaxNode} {
		again := func() scene {
			return restored(t, fmt.Sprintf("lead of %d", from), usual(), 40, leadRecord(from))
		}
		for _, m := range []api.Msg{askLead(0), askLead(3), askLead(4), askLead(api.MaxNode)} {
			again().says(m, 40)
			again().says(m, 64)
			s := again()
			s.says(m, 65, leased(m))
			s.wrote(leadRecord(from), leadRecord(m.From))
			s.says(m, 66, leased(m))
			s.wrote(leadRecord(from), leadRecord(m.From))
		}
		again().says(prepare(2, 1), 40, promised(prepare(2, 1)))
	}
}

// A2: the order of the records counts.
func TestReplayInOrder(t *testing.T) {
	a, b := promiseRecord(2, 9, planOf(1, 0)), promiseRecord(3, 4, planOf(2, 0))
	x := acceptedRecord(6, planOf(3, 1))
	restored(t, "a, b", usual(), 0, a, b).has(3, 4, 0, api.Plan{})
	restored(t, "b, a", usual(), 0, b, a).has(2, 9, 0, api.Plan{})
	restored(t, "a, b, x", usual(), 0, a, b, x).has(3, 6, 6, planOf(3, 1))
	restored(t, "a, x, b", usual(), 0, a, x, b).has(3, 4, 0, api.Plan{})
	restored(t, "b, x, b", usual(), 0, b, x, b).has(3, 4, 6, planOf(3, 1))
	restored(t, "x", usual(), 0, x).has(0, 6, 6, planOf(3, 1))
}

// A2: Restart again and again restores the same.
func TestRestartAgain(t *testing.T) {
	s := busy(t, "again")
	for now := int64(20); now < 25; now++ {
		s.restarts(now)
		s.has(3, 8, 7, planOf(3, 1))
		s.wrote(busyRecords()...)
	}
	s.says(prepare(4, 1), 48)
	s.says(prepare(4, 1), 49, promised(prepare(4, 1)))
	s.restarts(50)
	s.has(4, 1, 0, api.Plan{})
}
