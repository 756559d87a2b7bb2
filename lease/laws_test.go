package lease_test

import (
	"fmt"
	"math"
	"math/bits"
	"math/rand"
	"slices"
	"testing"

	"locum/acceptor"
	"locum/api"
	"locum/clock"
	"locum/lease"
)

// Promises P17.2 and P17.3.

// request is one that a holder made, and who has granted it while it was the last one.
type request struct {
	epoch  int64
	at     int64
	grants map[int]bool
}

// rowOf is a row of requests and grants, and the hold that came of it.
type rowOf struct {
	c        api.Config
	h        api.Hold
	requests []request // those since another epoch was asked for
}

// ask has it ask.
func (w *rowOf) ask(epoch, now int64) {
	w.h = lease.Ask(w.h, epoch, now)
	if n := len(w.requests); n > 0 && w.requests[n-1].epoch != epoch {
		w.requests = nil
	}
	w.requests = append(w.requests, request{epoch, now, map[int]bool{}})
}

// isFor tells whether a message is an acceptor's grant for the last request.
func (w *rowOf) isFor(m api.Msg) bool {
	last := w.requests[len(w.requests)-1]
	return m.Kind == api.MsgLease && m.Epoch == last.epoch && m.Nonce == last.at && m.From >= 0 && m.From <= 2*w.c.F
}

// grant has a message arrive; one that is not for the last request may have no effect.
func (w *rowOf) grant(t *testing.T, m api.Msg) {
	t.Helper()
	before := w.h
	w.h = lease.Grant(w.h, w.c, m)
	if w.isFor(m) {
		w.requests[len(w.requests)-1].grants[m.From] = true
	} else if w.h != before {
		t.Fatalf("F %d: %s made %s of %s", w.c.F, tellMsg(m), tell(w.h), tell(before))
	}
}

// isLive is what P17.2 says: less than L has gone by since a request for the epoch that a majority granted.
func (w *rowOf) isLive(epoch, now int64) bool {
	return slices.ContainsFunc(w.requests, func(q request) bool {
		return q.epoch == epoch && len(q.grants) > w.c.F && now < q.at+w.c.L
	})
}

// checkAll holds whether the lease is live at all times about the ends of all requests. It reports how often it is.
func (w *rowOf) checkAll(t *testing.T) int {
	t.Helper()
	live := 0
	for _, q := range w.requests {
		for _, now := range []int64{q.at, max(q.at+w.c.L-1, 0), q.at + w.c.L, q.at + w.c.L + 1} {
			for _, e := range []int64{q.epoch - 1, q.epoch, q.epoch + 1} {
				got := lease.Live(w.h, e, now)
				if got != w.isLive(e, now) {
					t.Fatalf("F %d, L %d: Live(%s, %d, %d) = %v, of %v", w.c.F, w.c.L, tell(w.h), e, now, got, w.requests)
				}
				if got {
					live++
				}
			}
		}
	}
	return live
}

// someArrival is a grant for one of the requests, mostly for the last one, and mostly of an acceptor.
func (w *rowOf) someArrival(r *rand.Rand) api.Msg {
	n := len(w.requests)
	q := w.requests[max(n-1-r.Intn(4)*r.Intn(2), 0)]
	m := api.Msg{Kind: api.MsgLease, From: r.Intn(2*w.c.F + 1), Epoch: q.epoch, Nonce: q.at, Code: r.Intn(3)}
	switch r.Intn(16) {
	case 0:
		m.Kind = api.MsgKind(r.Intn(21))
	case 1:
		m.Epoch += someOf[int64](r, -1, 1)
	case 2:
		m.Nonce += r.Int63n(9) - 4
	case 3:
		m.From = someOf(r, -1, 2*w.c.F+1, 2*w.c.F+2, r.Intn(70))
	}
	return m
}

// P17.2: over drawn rows of requests and grants, of other requests, doubled and out of order among them.
func TestLiveOnlyAfterAMajority(t *testing.T) {
	r := rand.New(rand.NewSource(61))
	live := 0
	for range 4000 {
		w := &rowOf{c: config(r.Intn(4), r.Int63n(12))}
		now := someOf(r, 0, 0, r.Int63n(1000), api.MaxTime-100)
		w.ask(r.Int63n(3), now)
		var sent []api.Msg
		for range 60 {
			now += r.Int63n(3) * r.Int63n(2)
			switch n := r.Intn(10); {
			case n == 0:
				w.ask(w.h.Epoch+someOf[int64](r, 0, 0, 0, 1, -1), now)
			case n < 3 && len(sent) > 0:
				w.grant(t, someOf(r, sent...))
			default:
				m := w.someArrival(r)
				sent = append(sent, m)
				w.grant(t, m)
			}
			live += w.checkAll(t)
		}
	}
	if live < 100000 {
		t.Errorf("a lease was live only %d times", live)
	}
}

// P17.2: whichever acceptors grant, one by one and in any order, the lease is live from the one that makes a majority on, for L of the request, whenever it comes.
func TestEachMajority(t *testing.T) {
	for f := range 4 {
		c := config(f, 20)
		for mask := range uint64(1 << (2*f + 1)) {
			h := lease.Ask(api.Hold{}, epoch, nonce)
			count := 0
			for i := range 2*f + 1 {
				from := (i*3 + int(mask)) % (2*f + 1)
				if f == 1 {
					from = (i*2 + int(mask)) % 3
				}
				if mask&(1<<from) == 0 {
					continue
				}
				count++
				h = lease.Grant(h, c, grant(from))
				checkLive(t, h, epoch, nonce, count > f)
				checkLive(t, h, epoch, nonce+19, count > f)
				checkLive(t, h, epoch, nonce+20, false)
			}
		}
	}
}

// P17.2: grants of a request before the last one don't count for that, nor do they end a lease; so it is with a request after which another epoch was asked for.
func TestGrantsOfOtherRequests(t *testing.T) {
	c := config(1, 20)
	first := lease.Ask(api.Hold{}, epoch, 100)
	h := lease.Ask(lease.Grant(first, c, grantOf(first, 0)), epoch, 105)
	for _, from := range []int{1, 2, 0} {
		check(t, h, c, grantOf(first, from), h)
	}
	h = lease.Grant(lease.Grant(h, c, grantOf(h, 0)), c, grantOf(h, 1))
	checkLive(t, h, epoch, 124, true)
	check(t, h, c, grantOf(first, 2), h)
	again := lease.Ask(h, epoch, 110)
	checkLive(t, again, epoch, 124, true)
	checkLive(t, again, epoch, 125, false)
	check(t, again, c, grantOf(h, 2), again)
	other := lease.Ask(again, epoch+1, 111)
	back := lease.Ask(other, epoch, 112)
	checkLive(t, back, epoch, 112, false)
	check(t, back, c, grantOf(again, 0), back)
}

// rules are how holders and clocks behave; the wrong ones are there to show that the scripts tell them.
type rules struct {
	ask   func(h api.Hold, epoch, now int64) api.Hold
	grant func(h api.Hold, c api.Config, m api.Msg, now int64) api.Hold
	live  func(h api.Hold, epoch, now int64) bool
	drift func(c api.Config) (much, least int64)
}

// right are those of the document.
func right() rules {
	return rules{
		ask:   lease.Ask,
		grant: func(h api.Hold, c api.Config, m api.Msg, _ int64) api.Hold { return lease.Grant(h, c, m) },
		live:  lease.Live,
		drift: func(c api.Config) (int64, int64) { return c.L + c.M, c.L },
	}
}

// holder asks for the lead.
type holder struct {
	hold  api.Hold
	asked bool // since it came up
}

// script is acceptors of layer 15, and holders that ask them for the lead, with messages under way between them; each node has a clock of its own.
type script struct {
	r         *rand.Rand
	rules     rules
	c         api.Config
	acceptors []*acceptor.Acceptor
	holders   []holder
	clocks    []int64    // by node: acceptors, then holders
	speeds    []int      // by node
	loss      int        // of twenty messages, so many are lost
	delay     int        // the greater it is, the later they arrive
	steps     []api.Step // those that still count for the drift
	all       []api.Step
	flight    []api.Msg
	leader    int // the last one that had the lead, or -1
	counted   map[string]int
}

// newScript is one of a seed.
func newScript(seed int64, rules rules) *script {
	r := rand.New(rand.NewSource(seed))
	s := &script{r: r, rules: rules, leader: -1, counted: map[string]int{}, loss: someOf(r, 0, 2, 2, 4, 8), delay: someOf(r, 1, 2, 3, 5)}
	s.c = api.Config{
		F: someOf(r, 0, 1, 1, 1, 1, 1, 2, 3), Deciders: 2, Targets: 2, Routers: 1, Observers: 3, Tiers: []int{1, 0},
		Every: 5, Wait: 3, Rise: 2, Fall: 2, Fresh: 20, L: 1 + r.Int63n(someOf[int64](r, 6, 10, 25)), M: r.Int63n(3),
		Dwell: 10, D: 3, W: 50, B: 3, Hit: 1000, Suppress: 1500, Reuse: 700, Half: 30,
		First: 20, Step: 40, StepTime: 5, S: 10, Cap: 2, Span: 10, Room: 4, Tries: 3, Retry: 5,
	}
	for node := range api.Acceptors(s.c) {
		s.acceptors = append(s.acceptors, acceptor.New(s.c, node))
	}
	s.holders = make([]holder, someOf(r, 2, 2, 2, 3, 4))
	fast, slow := 1+r.Intn(6), 1+r.Intn(6)
	latest := someOf[int64](r, 5, 5, 1000, 1000, api.MaxTime)
	for node := range len(s.acceptors) + len(s.holders) {
		s.clocks = append(s.clocks, max(latest-r.Int63n(1000), 0))
		s.speeds = append(s.speeds, fast)
		if node >= len(s.acceptors) && r.Intn(2) == 0 {
			s.speeds[node] = slow
		}
	}
	return s
}

// numbersTo are the numbers from one on, below another.
func numbersTo(from, to int) []int {
	var l []int
	for n := from; n < to; n++ {
		l = append(l, n)
	}
	return l
}

// tick has the clock of a node advance, so far as the others permit it.
func (s *script) tick() {
	node := s.r.Intn(len(s.clocks))
	if s.r.Intn(6) >= s.speeds[node] {
		return
	}
	_, least := s.rules.drift(s.c)
	s.forget(least)
	for by := someOf[int64](s.r, 1, 1, 1, 2, 3); by > 0; by-- {
		steps := append(s.steps, api.Step{Node: node, N: by})
		if s.permits(steps) {
			s.steps = steps
			s.all = append(s.all, api.Step{Node: node, N: by})
			s.clocks[node] += by
			s.counted["ticks"]++
			return
		}
	}
	s.counted["no tick"]++
}

// permits tells whether the clocks may drift so far.
func (s *script) permits(steps []api.Step) bool {
	n := len(s.acceptors)
	much, least := s.rules.drift(s.c)
	return clock.Drift(steps, numbersTo(0, n), much, numbersTo(n, len(s.clocks)), least)
}

// forget leaves out the first steps so far as all holders gain enough from there on: nothing that is still to come can violate what begins there.
func (s *script) forget(least int64) {
	slow := func(node int) bool { return clock.Gain(s.steps, node) < least }
	for len(s.steps) > 0 && !slices.ContainsFunc(numbersTo(len(s.acceptors), len(s.clocks)), slow) {
		s.steps = s.steps[1:]
	}
}

// ask has a holder ask all acceptors for the lead, mostly for epoch 0.
func (s *script) ask(i int) {
	h, node := &s.holders[i], len(s.acceptors)+i
	now := s.clocks[node]
	h.hold, h.asked = s.rules.ask(h.hold, someOf[int64](s.r, 0, 0, 0, 0, 0, 1), now), true
	for to := range s.acceptors {
		s.flight = append(s.flight, api.Msg{Kind: api.MsgAsk, From: node, To: to, Epoch: h.hold.Epoch, Code: api.CodeLead, Nonce: now})
	}
}

// arrive has one of the messages arrive, or be lost, or arrive and stay under way, too.
func (s *script) arrive() {
	if len(s.flight) == 0 {
		return
	}
	i := s.r.Intn(len(s.flight))
	m := s.flight[i]
	fate := s.r.Intn(20)
	if fate > 1 || len(s.flight) > 40 {
		s.flight = slices.Delete(s.flight, i, i+1)
	}
	if fate >= 20-s.loss {
		s.counted["lost"]++
		return
	}
	now := s.clocks[m.To]
	if m.To < len(s.acceptors) {
		s.flight = append(s.flight, s.acceptors[m.To].Handle(m, now)...)
		return
	}
	if h := &s.holders[m.To-len(s.acceptors)]; h.asked {
		h.hold = s.rules.grant(h.hold, s.c, m, now)
	}
}

// trouble has an acceptor get a fuse, or crash, or come up again though it is not down, or a holder forget all.
func (s *script) trouble() {
	i := s.r.Intn(len(s.acceptors))
	a := s.acceptors[i]
	switch s.r.Intn(6) {
	case 0:
		a.Restart(s.clocks[i])
	case 1:
		a.Journal().Fuse(s.r.Intn(4))
	case 2:
		s.holders[s.r.Intn(len(s.holders))] = holder{}
	default:
		a.Journal().Crash(someOf(s.r, 0, math.MaxInt, s.r.Intn(40)))
	}
}

// rise has an acceptor that is down come up again.
func (s *script) rise() {
	i := s.r.Intn(len(s.acceptors))
	if s.acceptors[i].Journal().Down() && s.acceptors[i].Restart(s.clocks[i]) == api.OK {
		s.counted["restart"]++
	}
}

// leaders are the holders that have the lead now, each by its own clock.
func (s *script) leaders() []int {
	var l []int
	for i, h := range s.holders {
		if s.rules.live(h.hold, h.hold.Epoch, s.clocks[len(s.acceptors)+i]) {
			l = append(l, i)
		}
	}
	return l
}

// play plays so many steps, and tells of the first time at which two have the lead.
func (s *script) play(steps int) string {
	troubled, eager := s.r.Intn(3), 0
	for range steps {
		switch n := s.r.Intn(100); {
		case n < 2:
			eager = s.r.Intn(len(s.holders))
		case n < 12:
			s.ask(someOf(s.r, eager, eager, eager, eager, eager, eager, eager, s.r.Intn(len(s.holders))))
		case n < 12+troubled:
			s.trouble()
		case n < 20:
			s.rise()
		case n < 35:
			for range 1 + s.r.Intn(2*len(s.clocks)) {
				s.tick()
			}
		default:
			for range 1 + 2*s.c.F {
				if s.r.Intn(s.delay) == 0 {
					s.arrive()
				}
			}
		}
		l := s.leaders()
		if len(l) > 1 {
			return fmt.Sprintf("F %d, L %d, M %d: %v all lead at %v, with %v", s.c.F, s.c.L, s.c.M, l, s.clocks, s.holders)
		}
		if len(l) == 1 {
			s.counted["led"]++
			if s.leader >= 0 && s.leader != l[0] {
				s.counted["handed over"]++
			}
			s.leader = l[0]
		}
	}
	return ""
}

// P17.3: no two nodes hold the lead at the same time, with acceptors that go down and come up, messages lost, doubled and out of order, and clocks that drift as far as they may.
func TestExclusion(t *testing.T) {
	counted := map[string]int{}
	for seed := range int64(3000) {
		s := newScript(seed, right())
		if fault := s.play(1000); fault != "" {
			t.Fatalf("seed %d: %s", seed, fault)
		}
		if seed%50 == 0 && !s.permits(s.all) {
			t.Fatalf("seed %d: the clocks drift too far: %v", seed, s.all)
		}
		for what, n := range s.counted {
			counted[what] += n
		}
	}
	for _, what := range []string{"ticks", "no tick", "led", "handed over", "restart", "lost"} {
		if counted[what] < 2000 {
			t.Errorf("%s: only %d", what, counted[what])
		}
	}
}

// wrongRules are those of holders and clocks that behave otherwise.
func wrongRules() map[string]rules {
	wrong := func(change func(x *rules)) rules {
		x := right()
		change(&x)
		return x
	}
	return map[string]rules{
		"clocks that drift by one more": wrong(func(x *rules) {
			x.drift = func(c api.Config) (int64, int64) { return c.L + c.M, c.L - 1 }
		}),
		"acceptors that wait one less": wrong(func(x *rules) {
			x.drift = func(c api.Config) (int64, int64) { return c.L + c.M + 1, c.L }
		}),
		"live at the end, too": wrong(func(x *rules) {
			x.live = func(h api.Hold, epoch, now int64) bool { return h.Until > 0 && lease.Live(h, epoch, now-1) }
		}),
		"one longer": wrong(func(x *rules) {
			x.grant = func(h api.Hold, c api.Config, m api.Msg, _ int64) api.Hold {
				c.L++
				return lease.Grant(h, c, m)
			}
		}),
		"one grant too few": wrong(func(x *rules) {
			x.grant = func(h api.Hold, c api.Config, m api.Msg, _ int64) api.Hold {
				if h = lease.Grant(h, c, m); bits.OnesCount64(h.Grants) == c.F {
					h.Until = max(h.Until, h.Nonce+c.L)
				}
				return h
			}
		}),
		"from the grant on": wrong(func(x *rules) {
			x.grant = func(h api.Hold, c api.Config, m api.Msg, now int64) api.Hold {
				if h.Nonce != m.Nonce {
					return h
				}
				old := h.Nonce
				h.Nonce, m.Nonce = now, now
				h = lease.Grant(h, c, m)
				h.Nonce = old
				return h
			}
		}),
		"grants of other requests": wrong(func(x *rules) {
			x.grant = func(h api.Hold, c api.Config, m api.Msg, _ int64) api.Hold {
				m.Nonce = h.Nonce
				return lease.Grant(h, c, m)
			}
		}),
		"grants that are kept": wrong(func(x *rules) {
			x.ask = func(h api.Hold, epoch, now int64) api.Hold {
				grants := h.Grants
				h = lease.Ask(h, epoch, now)
				h.Grants = grants
				return h
			}
		}),
	}
}

// P17.3: the same scripts tell holders and clocks that behave otherwise.
func TestScriptsTellTwoLeaders(t *testing.T) {
	for name, x := range wrongRules() {
		if !slices.ContainsFunc(seeds(3000), func(seed int64) bool { return newScript(seed, x).play(1000) != "" }) {
			t.Errorf("%s: no script tells it", name)
		}
	}
}

// seeds are the numbers below n.
func seeds(n int64) []int64 {
	var l []int64
	for seed := range n {
		l = append(l, seed)
	}
	return l
}

// P17.3: at the hand-over itself: another one is granted the lead only once the acceptors have gained L + M, and nobody who asked before that holds it once its clock has gained L; so it is across restarts.
func TestHandOver(t *testing.T) {
	for _, restart := range []bool{false, true} {
		for gain := range int64(40) {
			s := newScript(1, right())
			s.c.F, s.c.L, s.c.M = 1, 20, 5
			s.acceptors, s.holders = nil, make([]holder, 2)
			for node := range 3 {
				s.acceptors = append(s.acceptors, acceptor.New(s.c, node))
			}
			s.clocks = []int64{100, 200, 300, 50, 70}
			s.askAll(0)
			for i := range s.acceptors {
				if restart {
					s.acceptors[i].Journal().Crash(0)
					s.acceptors[i].Restart(s.clocks[i])
				}
				s.clocks[i] += gain
			}
			s.askAll(1)
			checkLive(t, s.holders[1].hold, 0, 70, gain >= 25)
			checkLive(t, s.holders[0].hold, 0, 50+gain, gain < 20)
		}
	}
}

// askAll has a holder ask, and all answers arrive at once.
func (s *script) askAll(i int) {
	node := len(s.acceptors) + i
	h := &s.holders[i]
	h.hold = lease.Ask(h.hold, 0, s.clocks[node])
	for to, a := range s.acceptors {
		for _, m := range a.Handle(api.Msg{Kind: api.MsgAsk, From: node, To: to, Code: api.CodeLead, Nonce: h.hold.Nonce}, s.clocks[to]) {
			h.hold = lease.Grant(h.hold, s.c, m)
		}
	}
}
