package acceptor_test

import (
	"fmt"
	"math"
	"math/rand"
	"testing"

	"locum/acceptor"
	"locum/api"
	"locum/plan"
)

// Promises P15.2 and P15.3, and P15.1 for what happens in any order.

// script draws what happens to an acceptor, from how it is.
type script struct {
	r     *rand.Rand
	c     api.Config
	now   int64
	back  bool // may time go back?
	noise bool // may records be put onto the disk, past the acceptor, and its journal be opened so?
}

// wait is how long a lease counts.
func (s *script) wait() int64 { return s.c.L + s.c.M }

// tick has time go on: by nothing, by little, by about what a lease counts, or by twice that.
func (s *script) tick() {
	switch s.r.Intn(8) {
	case 0, 1, 2:
		s.now += s.r.Int63n(3)
	case 3:
		s.now += s.r.Int63n(s.wait() + 1)
	case 4:
		s.now += s.wait() - 1 + s.r.Int63n(3)
	case 5:
		if s.r.Intn(3) == 0 {
			s.now += 2*s.wait() - 1 + s.r.Int63n(3)
		}
	case 6:
		if s.back {
			s.now = max(s.now-s.r.Int63n(2*s.wait()), 0)
		}
	}
	s.now = min(s.now, maxTime)
}

// draw is the next thing to happen.
func (s *script) draw(a *acceptor.Acceptor) event {
	s.tick()
	tail := len(a.Journal().Tail())
	switch n := s.r.Intn(100); {
	case a.Journal().Down() && n < 40:
		return restarts(s.now)
	case n < 4:
		return crashes([]int{0, math.MaxInt, s.r.Intn(tail + 1)}[s.r.Intn(3)])
	case n < 8:
		return fuses(s.r.Intn(5) - 1)
	case n < 10:
		return restarts(s.now)
	case s.noise && n < 12:
		return lays(s.record(a))
	case s.noise && n < 13:
		return opens()
	}
	return gets(s.message(a), s.now)
}

// near is a number about another one, hardly ever far away.
func (s *script) near(n int64) int64 {
	if s.r.Intn(60) == 0 {
		return []int64{0, -1, 1, 100, math.MaxInt64}[s.r.Intn(5)]
	}
	return n + s.r.Int63n(4) - 1
}

// plan is one of an epoch, now and then of another one, or with a Stamp that is too far ahead.
func (s *script) plan(epoch int64) api.Plan {
	if s.r.Intn(25) == 0 {
		epoch++
	}
	p := planOf(max(epoch, 0), s.r.Intn(40))
	p.Stamp = min(max(s.now-2+s.r.Int63n(s.c.S+3), 0), maxTime)
	return p
}

// message is one that suits the acceptor more or less.
func (s *script) message(a *acceptor.Acceptor) api.Msg {
	epoch, ballot, _, _ := a.State()
	var m api.Msg
	switch s.r.Intn(9) {
	case 0, 1:
		m = prepare(1, s.near(ballot))
		m.Epoch = epoch + 1 + s.r.Int63n(2)*s.r.Int63n(3)
		if s.r.Intn(3) > 0 {
			m.Ballot = 1 + s.r.Int63n(5)
		}
		m.Code = s.r.Intn(2) * s.r.Intn(3)
		m.Plan = s.plan(m.Epoch - 1)
	case 2:
		m = prepare(1, s.near(ballot))
		m.Epoch = s.near(epoch)
		m.Plan = s.plan(m.Epoch - 1)
	case 3, 4:
		m = accept(1, ballot)
		if s.r.Intn(4) == 0 {
			m.Ballot = s.near(ballot)
		}
		m.Epoch = epoch
		if s.r.Intn(4) == 0 {
			m.Epoch = s.near(epoch)
		}
		m.Plan = s.plan(m.Epoch)
	case 5, 6:
		m = askWrites(s.near(epoch + 1))
	case 7:
		m = askLead(3)
	default:
		m = api.Msg{Kind: api.MsgKind(s.r.Intn(21)), Epoch: epoch, Ballot: ballot, Code: s.r.Intn(4)}
	}
	m.From = 3 + s.r.Intn(3)
	if s.r.Intn(40) == 0 {
		m.From = -1
	}
	m.Nonce = s.now
	return m
}

// record is one that suits the acceptor more or less.
func (s *script) record(a *acceptor.Acceptor) api.Msg {
	epoch, ballot, _, _ := a.State()
	switch s.r.Intn(5) {
	case 0:
		return promiseRecord(s.near(epoch), s.near(ballot), planOf(7, s.r.Intn(40)))
	case 1:
		return acceptedRecord(s.near(ballot), planOf(7, s.r.Intn(40)))
	case 2:
		return leadRecord(3 + s.r.Intn(3))
	case 3:
		return api.Msg{Kind: api.MsgKind(1 + s.r.Intn(19)), Epoch: s.near(epoch), Ballot: s.near(ballot), Code: s.r.Intn(4)}
	}
	return writesRecord(3, s.near(epoch))
}

// someTimes is a config with short times, seldom with the longest ones.
func someTimes(r *rand.Rand) api.Config {
	if r.Intn(20) == 0 {
		return configs()[r.Intn(len(configs()))]
	}
	return withTimes(1+r.Int63n(12), r.Int63n(8), 1+r.Int63n(6))
}

// someScript is one of a seed.
func someScript(seed int64) *script {
	r := rand.New(rand.NewSource(seed))
	s := &script{r: r, c: someTimes(r)}
	if r.Intn(10) == 0 {
		s.now = maxTime - r.Int63n(100*s.wait())
	}
	return s
}

// P15.1: whatever happens, in any order, with time that may go back, each answer is what the document's words say, and so are State and the journal.
func TestAnyOrder(t *testing.T) {
	for seed := range int64(1500) {
		s := someScript(seed)
		s.back, s.noise = seed%2 == 0, seed%3 == 0
		p := pairOf(t, fmt.Sprintf("seed %d", seed), s.c)
		for range 200 {
			p.happens(s.draw(p.Acceptor))
		}
	}
}

// P15.1: what an acceptor has told is all that it takes: one that has the same told, from the beginning, is alike.
func TestTold(t *testing.T) {
	for seed := range int64(200) {
		s := someScript(seed)
		first := play(t, fmt.Sprintf("seed %d", seed), s.c)
		second := play(t, fmt.Sprintf("seed %d, again", seed), s.c)
		for range 100 {
			e := s.draw(first.Acceptor)
			for _, a := range []scene{first, second} {
				switch e.what {
				case restart:
					a.Restart(e.now)
				case get:
				default:
					e.to(a.Journal())
				}
			}
			if e.what == get {
				second.says(e.m, e.now, first.Handle(e.m, e.now)...)
			}
			epoch, ballot, accepted, plan := first.State()
			second.has(epoch, ballot, accepted, plan)
		}
	}
}

// mark is an epoch, and a ballot within it.
type mark struct{ epoch, ballot int64 }

// below tells whether a mark is less than another one.
func (m mark) below(n mark) bool {
	return m.epoch < n.epoch || m.epoch == n.epoch && m.ballot < n.ballot
}

// ledger has what an acceptor answered: that it must keep.
type ledger struct {
	scene
	top      mark          // the greatest epoch that was answered, with the greatest ballot
	asked    map[mark]bool // what a promise was asked for
	answered map[mark]bool // what was promised in an answer
	accepts  map[mark]bool // what was accepted in an answer
	restarts int           // how often it came up again
}

// newLedger is one without anything.
func newLedger(s scene) *ledger {
	return &ledger{scene: s, asked: map[mark]bool{}, answered: map[mark]bool{}, accepts: map[mark]bool{}}
}

// raise holds that what is told now is not below what was told.
func (l *ledger) raise(m mark) {
	l.t.Helper()
	if m.below(l.top) {
		l.t.Fatalf("%s: told %v after %v", l.name, m, l.top)
	}
	l.top = m
}

// take has an event happen, and enters the answers.
func (l *ledger) take(e event) {
	l.t.Helper()
	switch e.what {
	case restart:
		if l.Restart(e.now) != api.OK {
			return
		}
		l.restarts++
	case get:
		if e.m.Kind == api.MsgPrepare {
			l.asked[mark{e.m.Epoch, e.m.Ballot}] = true
		}
		for _, m := range l.Handle(e.m, e.now) {
			l.enter(m)
		}
	default:
		e.to(l.Journal())
		return
	}
	if l.Journal().Down() {
		return
	}
	epoch, ballot, accepted, p := l.State()
	l.raise(mark{epoch, ballot})
	if accepted != 0 {
		l.backed(mark{epoch, accepted})
		if p.Epoch != epoch || accepted > ballot {
			l.t.Fatalf("%s: accepted %d, %v at %d, %d", l.name, accepted, p, epoch, ballot)
		}
	}
}

// enter enters an answer.
func (l *ledger) enter(m api.Msg) {
	l.t.Helper()
	told := mark{m.Epoch, m.Ballot}
	switch m.Kind {
	case api.MsgPromise:
		if l.answered[told] {
			l.t.Fatalf("%s: promised %v twice", l.name, told)
		}
		l.raise(told)
		l.answered[told] = true
		if m.HasPlan != (m.Accepted != 0) || m.Accepted >= m.Ballot {
			l.t.Fatalf("%s: %s", l.name, short(m))
		}
		if m.Accepted != 0 {
			l.backed(mark{m.Epoch, m.Accepted})
		}
	case api.MsgNack:
		l.raise(told)
	case api.MsgAccepted:
		l.raise(told)
		l.backed(told)
		l.accepts[told] = true
	case api.MsgDecision:
		if m.Epoch >= l.top.epoch || m.Plan.Epoch != m.Epoch {
			l.t.Fatalf("%s: at %v, %s", l.name, l.top, short(m))
		}
	}
}

// backed holds that what is accepted had been asked to be promised, and that it was answered; a restart may find promises that were not.
func (l *ledger) backed(m mark) {
	l.t.Helper()
	if !l.asked[m] {
		l.t.Fatalf("%s: accepted %v, which nobody asked to be promised", l.name, m)
	}
	if !l.answered[m] && l.restarts == 0 {
		l.t.Fatalf("%s: accepted %v, which had not been promised", l.name, m)
	}
}

// P15.2: what is told never decreases, and what is accepted had been promised, whatever happens.
func TestDurability(t *testing.T) {
	told, accepted, restarted := 0, 0, 0
	for seed := range int64(2500) {
		s := someScript(seed)
		s.back = seed%2 == 0
		l := newLedger(play(t, fmt.Sprintf("seed %d", seed), s.c))
		for range 200 {
			l.take(s.draw(l.Acceptor))
		}
		told += len(l.answered)
		accepted += len(l.accepts)
		restarted += l.restarts
		l.ordered()
	}
	if told < 30000 || accepted < 10000 || restarted < 10000 {
		t.Errorf("only %d promises, %d accepted, %d restarts", told, accepted, restarted)
	}
}

// ordered holds the same of the records: epochs never decrease, nor within an epoch promised ballots; each accepted ballot is the last one that was promised.
func (l *ledger) ordered() {
	l.t.Helper()
	// What a crash left of a record is removed first.
	l.Journal().Fuse(-1)
	l.Journal().Open()
	last := mark{}
	for _, r := range recordsIn(l.t, l.Journal().Synced()) {
		now := mark{r.Epoch, r.Ballot}
		switch r.Kind {
		case api.MsgPromise:
			if !last.below(now) || r.Plan.Epoch != r.Epoch-1 {
				l.t.Fatalf("%s: record %s after %v", l.name, short(r), last)
			}
			last = now
		case api.MsgAccepted:
			if now != last || r.Plan.Epoch != r.Epoch {
				l.t.Fatalf("%s: record %s after %v", l.name, short(r), last)
			}
		}
	}
}

// P15.2: each promise that was answered is there behind any crash, and so is what was accepted, at every point of a script.
func TestDurabilityOfEach(t *testing.T) {
	for seed := range int64(250) {
		s := someScript(seed)
		var past []event
		first := play(t, fmt.Sprintf("seed %d", seed), s.c)
		for range 25 {
			e := gets(s.message(first.Acceptor), s.now)
			s.tick()
			first.Handle(e.m, e.now)
			past = append(past, e)
			epoch, ballot, accepted, p := first.State()
			for _, keep := range []int{0, 5, math.MaxInt} {
				other := play(t, first.name+", crashed", s.c)
				for _, e := range past {
					other.Handle(e.m, e.now)
				}
				other.Journal().Crash(keep)
				other.restarts(s.now)
				other.has(epoch, ballot, accepted, p)
			}
		}
	}
}

// waiting has the grants of writes that were answered, and holds that nobody gets a promise ahead of their end.
type waiting struct {
	scene
	wait    int64
	grants  map[int64]int64 // of an epoch: when it was granted last
	sealed  map[int64]bool  // epochs that were asked for as sealed ones
	seen    int64           // the epoch that was seen last
	counted map[string]int  // how often something happened
}

// take has an event happen.
func (w *waiting) take(e event) {
	w.t.Helper()
	switch e.what {
	case restart:
		w.Restart(e.now)
	case get:
		if e.m.Kind == api.MsgPrepare && e.m.Code == api.CodeSealed {
			w.sealed[e.m.Epoch] = true
		}
		answers := w.Handle(e.m, e.now)
		if len(answers) == 0 && e.m.Kind == api.MsgPrepare && e.m.Epoch > w.seen {
			w.counted["no promise"]++
		}
		for _, m := range answers {
			w.enter(e, m)
		}
	default:
		e.to(w.Journal())
	}
	w.settle()
}

// enter holds a promise against the grants, and enters a grant.
func (w *waiting) enter(e event, m api.Msg) {
	w.t.Helper()
	switch {
	case m.Kind == api.MsgLease && m.Code == api.CodeWrite:
		w.grants[m.Epoch] = e.now
		w.counted["grant"]++
	case m.Kind == api.MsgPromise && m.Epoch > w.seen:
		for epoch, at := range w.grants {
			switch {
			case epoch >= m.Epoch:
			case e.m.Code == api.CodeSealed:
				w.counted["sealed"]++
			case e.now < at+w.wait:
				w.t.Fatalf("%s: granted for %d at %d, promised %d at %d, waits for %d", w.name, epoch, at, m.Epoch, e.now, w.wait)
			case e.now == at+w.wait:
				w.counted["at once"]++
			default:
				w.counted["later"]++
			}
		}
	}
}

// settle forgets the grants below an epoch that all targets have sealed: nobody can write under them any more.
func (w *waiting) settle() {
	epoch, _, _, _ := w.State()
	if w.Journal().Down() || epoch <= w.seen {
		return
	}
	w.seen = epoch
	if !w.sealed[epoch] {
		return
	}
	for granted := range w.grants {
		if granted < epoch {
			delete(w.grants, granted)
		}
	}
}

// P15.3: after a grant of writes for an epoch no greater one is promised within L + M, unless it is sealed, across restarts too.
func TestWaiting(t *testing.T) {
	counted := map[string]int{}
	for seed := range int64(4000) {
		s := someScript(seed)
		w := &waiting{scene: play(t, fmt.Sprintf("seed %d", seed), s.c), wait: s.wait(), grants: map[int64]int64{}, sealed: map[int64]bool{}, counted: counted}
		for range 200 {
			w.take(s.draw(w.Acceptor))
		}
	}
	for _, what := range []string{"grant", "no promise", "sealed", "at once", "later"} {
		if counted[what] < 2000 {
			t.Errorf("%s: only %d times", what, counted[what])
		}
	}
}

// P15.3: tick by tick: a promise waits for L + M from the last grant, or from the Restart behind it, and no longer.
func TestWaitingTickByTick(t *testing.T) {
	for _, c := range []api.Config{withTimes(1, 0, 1), withTimes(2, 1, 1), withTimes(5, 0, 1), withTimes(4, 9, 1)} {
		wait := c.L + c.M
		for renewals := range int64(4) {
			for restarted := int64(-1); restarted <= wait+1; restarted++ {
				s := play(t, fmt.Sprintf("L + M %d, %d renewals, restarted after %d", wait, renewals, restarted), c)
				s.says(prepare(1, 1), 0, promised(prepare(1, 1)))
				last := 10 + 3*renewals
				for now := int64(10); now <= last; now += 3 {
					s.says(askWrites(1), now, leased(askWrites(1)))
				}
				end := last + wait
				for now := last; now <= end; now++ {
					if now == last+restarted {
						s.Journal().Crash(0)
						s.restarts(now)
						end = now + wait
					}
					held(t, s, prepare(2, 1), now, now == end)
				}
			}
		}
	}
}

// P15.3: a wish ends the renewals of earlier epochs, so that it is promised when the last lease is over.
func TestWishIsGranted(t *testing.T) {
	s := play(t, "renewed again and again", usual())
	s.says(prepare(1, 1), 0, promised(prepare(1, 1)))
	for now := int64(10); now < 100; now++ {
		s.says(askWrites(1), now, leased(askWrites(1)))
	}
	for now := int64(100); now < 124; now++ {
		s.says(prepare(2, 1), now)
		s.says(askWrites(1), now)
	}
	s.says(prepare(2, 1), 124, promised(prepare(2, 1)))
}

// P15.2: two majorities meet: once two of three acceptors have accepted a plan, each later proposal finds it, and no other one is accepted by two.
func TestAgreement(t *testing.T) {
	found := 0
	for seed := range int64(500) {
		r := rand.New(rand.NewSource(seed))
		var all [3]*acceptor.Acceptor
		for i := range all {
			all[i] = acceptor.New(usual(), i)
		}
		chosen := map[int64]api.Plan{}
		for ballot := int64(1); ballot < 30; ballot++ {
			proposeOnce(r, all[:], ballot, func(p api.Plan) {
				if before, is := chosen[p.Epoch]; is && !plan.Same(before, p) {
					t.Fatalf("seed %d: epoch %d has %v and %v", seed, p.Epoch, before, p)
				}
				chosen[p.Epoch] = p
				found++
			})
			if r.Intn(3) == 0 {
				a := all[r.Intn(3)]
				a.Journal().Crash(r.Intn(50))
				a.Restart(ballot)
			}
		}
	}
	if found < 1000 {
		t.Errorf("only %d proposals were accepted by two", found)
	}
}

// proposeOnce proposes a plan for epoch 1 to some acceptors, as the rule of two phases has it.
func proposeOnce(r *rand.Rand, all []*acceptor.Acceptor, ballot int64, chosen func(p api.Plan)) {
	value, best, promises, accepts := planOf(1, int(ballot)), int64(0), 0, 0
	for _, a := range all {
		if r.Intn(4) == 0 {
			continue
		}
		for _, m := range a.Handle(prepare(1, ballot), 5) {
			if m.Kind == api.MsgPromise {
				promises++
			}
			if m.Accepted > best {
				best, value = m.Accepted, m.Plan
			}
		}
	}
	if promises < 2 {
		return
	}
	for _, a := range all {
		if r.Intn(3) == 0 {
			continue
		}
		for _, m := range a.Handle(acceptOf(ballot, value), 5) {
			if m.Kind == api.MsgAccepted {
				accepts++
			}
		}
	}
	if accepts >= 2 {
		chosen(value)
	}
}
