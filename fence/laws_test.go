package fence_test

import (
	"fmt"
	"math"
	"math/rand"
	"slices"
	"testing"

	"locum/api"
	"locum/fence"
	"locum/msg"
	"locum/plan"
	"locum/policy"
)

// Promises P18.2 to P18.4, and P18.1 for calls in any order.

// script draws what happens to a target.
type script struct {
	r     *rand.Rand
	c     api.Config
	index int
	now   int64
	back  bool      // may time go back?
	noise bool      // are records put onto the disk?
	laid  int64     // how many were
	ids   [][]int64 // what was asked to be written
	asked []api.Msg // the first one of each request for a lease
}

// someOf is one of a list.
func someOf[T any](r *rand.Rand, l ...T) T { return l[r.Intn(len(l))] }

// someScript is one of a seed.
func someScript(seed int64) *script {
	r := rand.New(rand.NewSource(seed))
	s := &script{r: r}
	s.c = with(usual(), func(c *api.Config) {
		c.F, c.Targets = someOf(r, 0, 0, 1, 1, 1, 1, 2, 3), 1+r.Intn(3)
		c.Tiers = make([]int, c.Targets)
		c.L, c.Cap, c.Span, c.B = 1+r.Int63n(20), 1+r.Intn(4), 1+r.Int63n(12), 1+r.Intn(3)
	})
	s.index = r.Intn(s.c.Targets)
	if r.Intn(10) == 0 {
		s.now = maxTime - r.Int63n(200)
	}
	return s
}

// pass has time go on, mostly by little.
func (s *script) pass() {
	switch s.r.Intn(30) {
	case 0:
		s.now += someOf(s.r, s.c.L, s.c.Span, s.c.L/2) + s.r.Int63n(3) - 1
	case 1, 2, 3, 4, 5:
		s.now += 1 + s.r.Int63n(2)
	case 6:
		if s.back {
			s.now -= s.r.Int63n(2 * s.c.Span)
		}
	}
	s.now = min(max(s.now, 0), maxTime)
}

// draw is the next thing to happen.
func (s *script) draw(p player) event {
	s.pass()
	n, down := s.r.Intn(100), p.Journal().Down()
	switch {
	case down && n < 30:
		return restarts(s.now)
	case n < 1 || down && n < 50:
		return crashes(someOf(s.r, 0, math.MaxInt, s.r.Intn(len(p.Journal().Tail())+1)))
	case n < 3:
		return fuses(s.r.Intn(5) - 1)
	case n < 4:
		return restarts(s.now)
	case n < 5:
		return flips(s.r.Intn(2))
	case s.noise && n < 8:
		return lays(s.record(p))
	case n < 22:
		return ticks(s.time())
	}
	return gets(s.message(p), s.time())
}

// time is now, seldom one that there can't be.
func (s *script) time() int64 {
	if s.r.Intn(100) == 0 {
		return someOf[int64](s.r, -1, maxTime+1, math.MinInt64, math.MaxInt64)
	}
	return s.now
}

// saw has the script see what a target sent.
func (s *script) saw(l []api.Msg) {
	if len(l) > 0 && l[0].Kind == api.MsgAsk {
		s.asked = append(s.asked, l[0])
	}
}

// near is an epoch about the known one or the fence, hardly ever far away.
func (s *script) near(p player) int64 {
	if s.r.Intn(200) == 0 {
		return someOf[int64](s.r, 0, -1, 1, math.MaxInt64)
	}
	return someOf(s.r, p.Known().Epoch, p.Known().Epoch, p.Fence()) + s.r.Int63n(3) - s.r.Int63n(2)
}

// message is one that suits a target more or less.
func (s *script) message(p player) api.Msg {
	var m api.Msg
	switch n := s.r.Intn(80); {
	case n < 3 || n < 20 && p.Known().Epoch == 0:
		m = decision(s.plan(max(s.near(p), 0)))
	case n < 34:
		m = s.write(p)
	case n < 72:
		m = s.grant()
	case n < 74:
		m = seal(s.near(p))
	case n < 76:
		m = probe(s.r.Int63n(9))
	default:
		m = api.Msg{Kind: api.MsgKind(s.r.Intn(21)), From: s.r.Intn(9), Epoch: s.near(p), Nonce: s.now, Code: s.r.Intn(3)}
	}
	if s.r.Intn(60) == 0 {
		m = someOf(s.r, wrongs(m)...)
	}
	return m
}

// write asks for something to be written, mostly new, and mostly under the known plan.
func (s *script) write(p player) api.Msg {
	m := write(s.r.Int63n(1000), p.Known().Epoch)
	m.From, m.ID = s.r.Intn(20), []int64{s.r.Int63n(2), s.r.Int63n(2), int64(len(s.ids))}
	if len(s.ids) > 0 && s.r.Intn(3) == 0 {
		m.ID = someOf(s.r, s.ids...)
	}
	if s.r.Intn(4) == 0 {
		m.Epoch = s.near(p)
	}
	if s.r.Intn(20) == 0 {
		m.Payload = nil
	}
	s.ids = append(s.ids, m.ID)
	return m
}

// grant is one for the last request, mostly.
func (s *script) grant() api.Msg {
	if len(s.asked) == 0 {
		return grant(s.r.Intn(7), s.r.Int63n(2), s.r.Int63n(2))
	}
	ask := s.asked[len(s.asked)-1]
	if s.r.Intn(8) == 0 {
		ask = someOf(s.r, s.asked...)
	}
	m := grant(s.r.Intn(2*s.c.F+1), ask.Epoch, ask.Nonce)
	switch s.r.Intn(40) {
	case 0:
		m.Epoch += someOf[int64](s.r, -1, 1)
	case 1:
		m.Nonce += someOf[int64](s.r, -1, 1)
	case 2:
		m.From = 2*s.c.F + 1 + s.r.Intn(3)
	case 3:
		m.Code = s.r.Intn(3)
	}
	return m
}

// plan is one that mostly names the target, and that seldom does not fit.
func (s *script) plan(epoch int64) api.Plan {
	any := func() int { return s.r.Intn(s.c.Targets+1) - 1 }
	p := api.Plan{Epoch: epoch, Target: s.index, Prev: any(), Spill: any(), Percent: someOf(s.r, 20, 99, 100), Pen: make([]int, s.c.Targets)}
	switch s.r.Intn(8) {
	case 0:
		p.Target = any()
	case 1:
		p.Target, p.Prev = any(), s.index
	case 2:
		p.Target, p.Spill = any(), s.index
	case 3:
		if s.r.Intn(3) == 0 {
			p.Pen = append(p.Pen, 1)
		}
	}
	return p
}

// record is one with an ID that nobody else has, or without one that matters.
func (s *script) record(p player) api.Msg {
	s.laid++
	m := write(0, s.near(p))
	m.ID = []int64{9, 9, s.laid}
	if s.r.Intn(2) == 0 {
		s.ids = append(s.ids, m.ID)
	}
	switch s.r.Intn(4) {
	case 0:
		return fenceRecord(s.near(p))
	case 1:
		return writeRecord(m)
	case 2:
		return closeRecord(m)
	}
	kind := someOf(s.r, api.MsgProbe, api.MsgPromise, api.MsgLease, api.MsgSeal, api.MsgReply, api.RecBoot)
	return with(m, func(m *api.Msg) { m.Kind = kind })
}

// P18.1: whatever happens, in any order, with time that may go back, each answer is what the document's words say, and so are the parts and the journal.
func TestAnyOrder(t *testing.T) {
	for seed := range int64(3000) {
		s := someScript(seed)
		s.back, s.noise = seed%2 == 0, seed%3 == 0
		p := pairOf(t, fmt.Sprintf("seed %d", seed), s.c, s.index)
		for range 250 {
			e := s.draw(p.x)
			s.saw(p.happens(e))
		}
	}
}

// P18.1: what a target got is all that it takes: one that gets the same from the beginning is alike.
func TestTold(t *testing.T) {
	for seed := range int64(200) {
		s := someScript(seed)
		p := pair{t, fmt.Sprintf("seed %d", seed), fence.New(s.c, s.index), fence.New(s.c, s.index)}
		for range 150 {
			s.saw(p.happens(s.draw(p.x)))
		}
	}
}

// key is an ID.
type key [3]int64

// request is one for a lease, and who has granted it while it was the last one.
type request struct {
	epoch  int64
	at     int64
	grants map[int]bool
}

// ledger has what a target got and answered, and holds the promises against what it shows.
type ledger struct {
	p        player
	c        api.Config
	index    int
	known    api.Plan  // by the decisions that it got since it came up
	requests []request // since it came up, or asked for another epoch
	sealed   int64     // the greatest epoch of a seal that was answered
	told     map[key]api.Msg
	may      map[key][]api.Entry // what it could write when it got it
	log      []api.Entry         // as it was seen last
	answered bool                // was what it did last answered?
	counted  map[string]int
}

func newLedger(p player, s *script, counted map[string]int) *ledger {
	return &ledger{p: p, c: s.c, index: s.index, known: policy.Zero(s.c), told: map[key]api.Msg{}, may: map[key][]api.Entry{}, counted: counted}
}

// take has an event happen, and tells which promise is broken behind it.
func (l *ledger) take(s *script, e event) string {
	if e.what == get && msg.Right(e.m) && e.now >= 0 && e.now <= maxTime && !l.p.Journal().Down() {
		l.hear(e)
	}
	answers, err := e.to(l.p)
	s.saw(answers)
	l.answered = len(answers) > 0
	switch {
	case e.what == restart:
		l.known, l.requests = policy.Zero(l.c), nil
		if err == api.OK {
			l.counted["restart"]++
		}
	case e.what == tick && len(answers) > 0:
		l.ask(answers[0])
	}
	for _, m := range answers {
		if fault := l.enter(m); fault != "" {
			return fault
		}
	}
	if l.p.Journal().Down() {
		return ""
	}
	return l.check(e)
}

// hear enters a message that the target gets.
func (l *ledger) hear(e event) {
	m := e.m
	switch m.Kind {
	case api.MsgDecision:
		if p := m.Plan; len(p.Pen) == l.c.Targets && p.Epoch > l.known.Epoch {
			l.known = p
		}
	case api.MsgLease:
		if n := len(l.requests); n > 0 {
			if q := l.requests[n-1]; m.Code == api.CodeWrite && m.Epoch == q.epoch && m.Nonce == q.at && m.From <= 2*l.c.F {
				q.grants[m.From] = true
			}
		}
	case api.MsgWrite:
		if len(m.ID) > 0 && m.Epoch == l.known.Epoch && plan.Names(l.known, l.index) && l.leased(m.Epoch, e.now) {
			l.may[key(m.ID)] = append(l.may[key(m.ID)], entry(m))
		}
	}
}

// ask enters a request.
func (l *ledger) ask(m api.Msg) {
	if n := len(l.requests); n > 0 && l.requests[n-1].epoch != m.Epoch {
		l.requests = nil
	}
	l.requests = append(l.requests, request{m.Epoch, m.Nonce, map[int]bool{}})
}

// leased tells whether less than L has gone by since a request for an epoch that a majority granted.
func (l *ledger) leased(epoch, now int64) bool {
	return slices.ContainsFunc(l.requests, func(q request) bool {
		return q.epoch == epoch && len(q.grants) > l.c.F && now < q.at+l.c.L
	})
}

// enter enters an answer.
func (l *ledger) enter(m api.Msg) string {
	switch m.Kind {
	case api.MsgSealed:
		l.sealed = max(l.sealed, m.Epoch)
		l.counted["sealed"]++
	case api.MsgReply:
		before, is := l.told[key(m.ID)]
		if is && (before.Code != m.Code || m.Code == api.CodeOK && before.Epoch != m.Epoch) {
			return fmt.Sprintf("answered %s after %s", short(m), short(before))
		}
		l.told[key(m.ID)] = m
		switch {
		case is:
			l.counted["again"]++
		case m.Code == api.CodeOK:
			l.counted["written"]++
		default:
			l.counted["closed"]++
		}
	}
	return ""
}

// check holds what a target shows that is up.
func (l *ledger) check(e event) string {
	log, closed := l.p.Log(), map[key]bool{}
	for _, id := range l.p.Closed() {
		closed[key(id)] = true
	}
	if len(log) < len(l.log) || !sameLog(log[:len(l.log)], l.log) {
		return fmt.Sprintf("the log was %v, and is %v", l.log, log)
	}
	for _, x := range log[len(l.log):] {
		if fault := l.checkNew(x); fault != "" {
			return fault
		}
		if !l.answered {
			l.counted["found behind a crash"]++
		}
	}
	l.log = log
	written, last := map[key]int64{}, int64(math.MinInt64)
	for _, x := range log {
		if _, is := written[key(x.ID)]; is || closed[key(x.ID)] {
			return fmt.Sprintf("%v is written, and written again or closed", x.ID)
		}
		if x.Epoch < last {
			return fmt.Sprintf("epochs decrease: %v", log)
		}
		written[key(x.ID)], last = x.Epoch, x.Epoch
	}
	return l.checkTold(written, closed, last)
}

// checkNew holds what is new in the log.
func (l *ledger) checkNew(x api.Entry) string {
	if !slices.ContainsFunc(l.may[key(x.ID)], func(y api.Entry) bool { return sameEntry(x, y) }) {
		return fmt.Sprintf("%v is written, without a plan or a lease", x)
	}
	if x.Epoch < l.sealed {
		return fmt.Sprintf("%v is written, and %d is sealed", x, l.sealed)
	}
	return ""
}

// checkTold holds what was answered, and what is known.
func (l *ledger) checkTold(written map[key]int64, closed map[key]bool, last int64) string {
	for id, m := range l.told {
		if epoch, is := written[id]; m.Code == api.CodeOK && (!is || epoch != m.Epoch) || m.Code == api.CodeNo && !closed[id] {
			return fmt.Sprintf("%s was answered, and is not so", short(m))
		}
	}
	if l.p.Fence() < l.sealed || l.p.Fence() < last {
		return fmt.Sprintf("the fence is %d, sealed is %d, written %d", l.p.Fence(), l.sealed, last)
	}
	if !plan.Same(l.p.Known(), l.known) {
		return fmt.Sprintf("known is %v, want %v", l.p.Known(), l.known)
	}
	return ""
}

// playLedger plays the script of a seed with a target, and tells which promise is broken.
func playLedger(seed int64, make func(c api.Config, index int) player, counted map[string]int) string {
	s := someScript(seed)
	s.back = seed%2 == 0
	l := newLedger(make(s.c, s.index), s, counted)
	for range 250 {
		e := s.draw(l.p)
		if fault := l.take(s, e); fault != "" {
			return fmt.Sprintf("seed %d: %v: %s", seed, e, fault)
		}
	}
	return ""
}

// P18.2, P18.3, P18.4: over scripts of messages, ticks, fuses, crashes and restarts.
func TestLaws(t *testing.T) {
	counted := map[string]int{}
	target := func(c api.Config, index int) player { return fence.New(c, index) }
	for seed := range int64(4000) {
		if fault := playLedger(seed, target, counted); fault != "" {
			t.Fatal(fault)
		}
	}
	for what, least := range map[string]int{"written": 10000, "closed": 20000, "sealed": 5000, "again": 20000, "restart": 10000, "found behind a crash": 50} {
		if counted[what] < least {
			t.Errorf("%s: only %d", what, counted[what])
		}
	}
}

// faults are ways in which a target may break a promise.
func faults() []string {
	return []string{
		"the log is forgotten", "what is closed is forgotten", "a write does not raise the fence", "what is not synced is answered",
		"a seal is not remembered", "grants of any request", "one grant too few", "the log is not looked at", "what is closed is not looked at",
		"whom the plan names does not matter", "any epoch that is known", "the fence is not looked at", "the lease is not looked at",
		"live at the end, too", "a lease of any epoch",
	}
}

// P18.2, P18.3, P18.4: the same scripts tell a target that breaks one of them.
func TestScriptsTellFaults(t *testing.T) {
	for _, fault := range append(faults(), "") {
		broken := func(c api.Config, index int) player { return newWords(c, index, fault) }
		told := ""
		for seed := int64(0); seed < 4000 && told == ""; seed++ {
			told = playLedger(seed, broken, map[string]int{})
		}
		if (told == "") != (fault == "") {
			t.Errorf("fault %q: %q", fault, told)
		}
	}
}

// P18.2, P18.3: at every point of a script, each answer holds behind a crash that keeps none, some and all, and a restart.
func TestEachAnswerHolds(t *testing.T) {
	for seed := range int64(120) {
		s := someScript(seed)
		var past []event
		first := fence.New(s.c, s.index)
		for range 60 {
			e := s.draw(first)
			l, _ := e.to(first)
			s.saw(l)
			past = append(past, e)
			for _, keep := range []int{0, 9, math.MaxInt} {
				checkCrashed(t, seed, s, past, keep)
			}
		}
	}
}

// checkCrashed plays some events anew, with a crash and a restart at their end, and asks for all that was answered again.
func checkCrashed(t *testing.T, seed int64, s *script, past []event, keep int) {
	t.Helper()
	l := newLedger(fence.New(s.c, s.index), s, map[string]int{})
	again := &script{}
	for _, e := range append(slices.Clip(past), fuses(-1), crashes(keep), restarts(s.now)) {
		if fault := l.take(again, e); fault != "" {
			t.Fatalf("seed %d: %v: %s", seed, e, fault)
		}
	}
	if l.p.Journal().Down() {
		t.Fatalf("seed %d: it is down", seed)
	}
	for id, before := range l.told {
		got := l.p.Handle(api.Msg{Kind: api.MsgWrite, From: 8, ID: id[:], Epoch: before.Epoch}, s.now)
		want := api.Msg{Kind: api.MsgReply, From: api.TargetNode(s.c, s.index), To: 8, ID: id[:], Epoch: before.Epoch, Code: before.Code}
		if !same(got, []api.Msg{want}) {
			t.Fatalf("seed %d: answered %s, and then %s", seed, short(before), shorts(got))
		}
	}
}

// P18.2: behind a seal that was answered nothing below it is written, be it at once, behind a restart, with any plan and any lease.
func TestNothingBelowASeal(t *testing.T) {
	for sealedEpoch := int64(1); sealedEpoch <= 5; sealedEpoch++ {
		for epoch := int64(1); epoch <= 5; epoch++ {
			for _, restart := range []bool{false, true} {
				s := play(t, fmt.Sprintf("sealed %d, written %d, restart %v", sealedEpoch, epoch, restart), usual())
				s.says(seal(sealedEpoch), 3, sealed(seal(sealedEpoch)))
				if restart {
					s.Journal().Crash(0)
					s.restarts(4)
				}
				s.learns(planOf(epoch))
				s.leases(epoch, 5)
				if epoch < sealedEpoch {
					s.says(write(1, epoch), 5, refused(write(1, epoch)))
				} else {
					s.says(write(1, epoch), 5, wrote(write(1, epoch), epoch))
				}
			}
		}
	}
}

// P18.2: the same of what was written: nothing below it is written behind a restart, with which the plan of it is forgotten.
func TestNothingBelowAWrite(t *testing.T) {
	for first := int64(1); first <= 5; first++ {
		for epoch := int64(1); epoch <= 5; epoch++ {
			s := ready(t, fmt.Sprintf("written %d, then %d", first, epoch), usual(), first, 5)
			s.says(write(1, first), 5, wrote(write(1, first), first))
			s.Journal().Crash(0)
			s.restarts(6)
			s.learns(planOf(epoch))
			s.leases(epoch, 7)
			if epoch < first {
				s.says(write(2, epoch), 7, refused(write(2, epoch)))
			} else {
				s.says(write(2, epoch), 7, wrote(write(2, epoch), epoch))
			}
		}
	}
}
