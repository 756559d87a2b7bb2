package proposer_test

import (
	"fmt"
	"math"
	"math/rand"
	"slices"
	"testing"

	"locum/acceptor"
	"locum/api"
	"locum/plan"
	"locum/policy"
	"locum/proposer"
)

// Promises P16.2 and P16.3.

// counts tells whether a message is an acceptor's promise of the proposal under test.
func counts(m api.Msg, f int) bool {
	return m.Kind == api.MsgPromise && m.Epoch == epoch && m.Ballot == ballot && m.From >= 0 && m.From <= 2*f && (!m.HasPlan || m.Plan.Epoch == epoch)
}

// valueOf is what P16.2 says: the plan of the highest ballot that was accepted, or else the own one.
func valueOf(own api.Plan, counted []api.Msg) api.Plan {
	value, best := own, int64(0)
	for _, m := range counted {
		if m.HasPlan && m.Accepted > best {
			value, best = m.Plan, m.Accepted
		}
	}
	return value
}

// checkValue gives a proposal a row of promises, and holds its value once it is in phase 2. It reports whether it is, and whether some that counted had a plan.
func checkValue(t *testing.T, f int, row []api.Msg) (bool, bool) {
	t.Helper()
	own := planOf(0, 100)
	p := proposer.Start(epoch, ballot, own)
	own.Epoch = epoch
	var counted []api.Msg
	senders := map[int]bool{}
	for _, m := range row {
		p = proposer.Promise(p, withF(f), m)
		// Behind a majority nothing counts any more.
		if len(senders) <= f && counts(m, f) {
			senders[m.From] = true
			counted = append(counted, m)
		}
		if len(senders) <= f != (p.Phase == 1) {
			t.Fatalf("F %d: %d promises: %s", f, len(senders), tell(p))
		}
	}
	if p.Phase != 1 && (p.Phase != 2 || !plan.Same(p.Value, valueOf(own, counted))) {
		t.Fatalf("F %d: %s, of %v", f, tell(p), counted)
	}
	return p.Phase == 2, p.Best != 0
}

// P16.2: over all rows of three promises of acceptors that had accepted something, or nothing, in any order.
func TestValueOfAllRows(t *testing.T) {
	var l []api.Msg
	for from := range 3 {
		l = append(l, promised(from))
		for _, accepted := range []int64{1, 5, 9} {
			l = append(l, promisedWith(from, accepted, planOf(epoch, int(accepted))))
		}
	}
	for _, a := range l {
		for _, b := range l {
			for _, c := range l {
				checkValue(t, 1, []api.Msg{a, b, c})
			}
		}
	}
}

// somePromise is one of an acceptor, mostly; each ballot that was accepted has one plan.
func somePromise(r *rand.Rand, f int) api.Msg {
	m := promised(r.Intn(2*f+3) - 1)
	if r.Intn(3) == 0 {
		b := 1 + r.Int63n(30)
		m = promisedWith(m.From, b, planOf(epoch, int(b)))
	}
	switch r.Intn(20) {
	case 0:
		m.Kind = api.MsgNack
	case 1:
		m.Epoch, m.Plan.Epoch = epoch+1, epoch+1
	case 2:
		m.Ballot--
	case 3:
		m.Plan.Epoch--
	}
	return m
}

// P16.2: over drawn rows, with answers to other proposals, and of nodes that are no acceptors, among them.
func TestValueOfDrawnRows(t *testing.T) {
	r := rand.New(rand.NewSource(42))
	given, own := 0, 0
	for range 40000 {
		f := r.Intn(4)
		var row []api.Msg
		for range 3 + r.Intn(20) {
			row = append(row, somePromise(r, f))
		}
		switch done, had := checkValue(t, f, row); {
		case done && had:
			given++
		case done:
			own++
		}
	}
	if given < 10000 || own < 5000 {
		t.Errorf("only %d rows with plans, %d without", given, own)
	}
}

// cluster has proposals, and acceptors of layer 15, with messages under way between them.
type cluster struct {
	r         *rand.Rand
	name      string
	c         api.Config
	promise   step // what the proposers do with a promise
	now       int64
	acceptors []*acceptor.Acceptor
	deciders  int
	round     int64
	proposals []api.Prop
	flight    []api.Msg
	counted   map[string]int
}

// newCluster is one of a seed.
func newCluster(seed int64, promise step) *cluster {
	r := rand.New(rand.NewSource(seed))
	c := &cluster{r: r, name: fmt.Sprintf("seed %d", seed), promise: promise, deciders: 2 + r.Intn(3), counted: map[string]int{}}
	c.c = api.Config{
		F: someOf(r, 0, 1, 1, 1, 2, 2, 3), Deciders: 2, Targets: 2, Routers: 1, Observers: 3, Tiers: []int{1, 0},
		Every: 5, Wait: 3, Rise: 2, Fall: 2, Fresh: 20, L: 4, M: 1,
		Dwell: 10, D: 3, W: 50, B: 3, Hit: 1000, Suppress: 1500, Reuse: 700, Half: 30,
		First: 20, Step: 40, StepTime: 5, S: 10, Cap: 2, Span: 10, Room: 4, Tries: 3, Retry: 5,
	}
	for node := range api.Acceptors(c.c) {
		c.acceptors = append(c.acceptors, acceptor.New(c.c, node))
	}
	return c
}

// toAcceptors sends a message to each acceptor.
func (c *cluster) toAcceptors(m api.Msg) {
	for node := range c.acceptors {
		m.To = node
		c.flight = append(c.flight, m)
	}
}

// decided is how many epochs are, from the first one on.
func (c *cluster) decided() int64 {
	last := int64(0)
	for _, p := range c.proposals {
		if p.Phase == 3 {
			last = max(last, p.Epoch)
		}
	}
	return last
}

// propose has a decider propose a plan that nobody else proposes, for the epoch behind those that are decided, at times for the one ahead of it.
func (c *cluster) propose() {
	index := int64(c.r.Intn(c.deciders))
	c.round += c.r.Int63n(2)
	b := 16*(1+c.round) + index
	e := max(1, c.decided()+1-c.r.Int63n(2)*c.r.Int63n(2))
	for _, p := range c.proposals {
		if p.Ballot == b && p.Epoch == e {
			return
		}
	}
	own := planOf(0, len(c.proposals))
	own.Stamp = max(0, c.now-c.r.Int63n(9))
	c.proposals = append(c.proposals, proposer.Start(e, b, own))
	known := policy.Zero(c.c)
	known.Epoch = e - 1
	c.toAcceptors(api.Msg{Kind: api.MsgPrepare, From: c.node(b), Epoch: e, Ballot: b, HasPlan: true, Plan: known})
}

// node is the decider whose ballot it is.
func (c *cluster) node(ballot int64) int { return api.Acceptors(c.c) + int(ballot%16) }

// ask has a proposal in phase 2 or 3 ask once more to be accepted.
func (c *cluster) ask(p api.Prop) {
	if p.Phase >= 2 {
		c.toAcceptors(api.Msg{Kind: api.MsgAccept, From: c.node(p.Ballot), Epoch: p.Epoch, Ballot: p.Ballot, HasPlan: true, Plan: p.Value})
	}
}

// arrive has one of the messages arrive, or be lost, or arrive and stay under way, too.
func (c *cluster) arrive() {
	if len(c.flight) == 0 {
		return
	}
	i := c.r.Intn(len(c.flight))
	m := c.flight[i]
	fate := c.r.Intn(20)
	if fate > 2 || len(c.flight) > 200 {
		c.flight = slices.Delete(c.flight, i, i+1)
	}
	switch {
	case fate >= 18:
		c.counted["lost"]++
	case m.To < len(c.acceptors):
		c.flight = append(c.flight, c.acceptors[m.To].Handle(m, c.now)...)
	default:
		c.answer(m)
	}
}

// answer gives an answer to all proposals: only that which it is for may change.
func (c *cluster) answer(m api.Msg) {
	for i, p := range c.proposals {
		q := proposer.Accepted(c.promise(p, c.c, m), c.c, m)
		c.proposals[i] = q
		if p.Phase == 1 && q.Phase == 2 {
			c.counted["phase 2"]++
			c.ask(q)
		}
	}
}

// trouble has an acceptor crash, get a fuse, or come up again.
func (c *cluster) trouble() {
	a := c.acceptors[c.r.Intn(len(c.acceptors))]
	switch n := c.r.Intn(4); {
	case a.Journal().Down() || n == 0:
		if a.Restart(c.now) == api.OK {
			c.counted["restart"]++
		}
	case n == 1:
		a.Journal().Fuse(c.r.Intn(4))
	default:
		a.Journal().Crash(someOf(c.r, 0, math.MaxInt, c.r.Intn(40)))
	}
}

// play plays so many steps.
func (c *cluster) play(steps int) {
	troubled := c.r.Intn(3)
	for range steps {
		c.now += c.r.Int63n(2)
		switch n := c.r.Intn(100); {
		case n < 4:
			c.propose()
		case n < 6 && len(c.proposals) > 0:
			c.ask(someOf(c.r, c.proposals...))
		case n < 6+3*troubled:
			c.trouble()
		default:
			c.arrive()
		}
	}
}

// end is what came of a script: the first two proposals that disagree, and how many agree with an earlier one.
type end struct {
	disagree string
	agree    int
	forced   int // how many of those in phase 3 have a value that is not their own plan
}

// outcome compares all proposals in phase 3, epoch by epoch.
func (c *cluster) outcome() end {
	var e end
	first := map[int64]api.Prop{}
	for _, p := range c.proposals {
		if p.Phase != 3 {
			continue
		}
		if !plan.Same(p.Value, p.Own) {
			e.forced++
		}
		before, is := first[p.Epoch]
		switch {
		case !is:
			first[p.Epoch] = p
		case !plan.Same(before.Value, p.Value):
			e.disagree = fmt.Sprintf("%s: %s and %s", c.name, tell(before), tell(p))
		default:
			e.agree++
		}
	}
	return e
}

// P16.3: of all proposals for one epoch that are in phase 3 the plans are alike, with acceptors that go down and come up, and messages lost, doubled and out of order.
func TestAgreement(t *testing.T) {
	agree, forced, counted := 0, 0, map[string]int{}
	for seed := range int64(3000) {
		c := newCluster(seed, proposer.Promise)
		c.play(600)
		e := c.outcome()
		if e.disagree != "" {
			t.Fatal(e.disagree)
		}
		agree += e.agree
		forced += e.forced
		counted["decided"] += int(c.decided())
		for what, n := range c.counted {
			counted[what] += n
		}
	}
	for _, what := range []string{"decided", "phase 2", "restart", "lost"} {
		if counted[what] < 5000 {
			t.Errorf("%s: only %d", what, counted[what])
		}
	}
	if agree < 1000 || forced < 1000 {
		t.Errorf("only %d proposals agree with an earlier one, and %d have a value that is not their own plan", agree, forced)
	}
}

// P16.3: the same scripts tell proposers that choose otherwise: always their own plan, that of the last answer, or with one promise too few.
func TestScriptsTellDisagreement(t *testing.T) {
	for name, promise := range map[string]step{
		"own plan": func(p api.Prop, c api.Config, m api.Msg) api.Prop {
			m.HasPlan = false
			return proposer.Promise(p, c, m)
		},
		"last answer": func(p api.Prop, c api.Config, m api.Msg) api.Prop {
			q := p
			if m.HasPlan {
				q.Best = 0
			}
			if q = proposer.Promise(q, c, m); q.Promises == p.Promises {
				return p
			}
			return q
		},
		"too few": func(p api.Prop, c api.Config, m api.Msg) api.Prop {
			c.F--
			return proposer.Promise(p, c, m)
		},
	} {
		told := slices.ContainsFunc(seeds(3000), func(seed int64) bool {
			c := newCluster(seed, promise)
			c.play(600)
			return c.outcome().disagree != ""
		})
		if !told {
			t.Errorf("%s: no script tells it", name)
		}
	}
}

// seeds are the numbers below n.
func seeds(n int64) []int64 {
	var l []int64
	for seed := range n {
		l = append(l, seed)
	}
	return l
}

// P16.3: a value that a majority has accepted is that of each later proposal, whoever of the acceptors answers it, and whatever they lose in crashes.
func TestLaterProposals(t *testing.T) {
	for f := range 4 {
		for seed := range int64(200) {
			c := newCluster(seed, proposer.Promise)
			c.c.F = f
			c.acceptors = nil
			for node := range api.Acceptors(c.c) {
				c.acceptors = append(c.acceptors, acceptor.New(c.c, node))
			}
			var value api.Plan
			for b := int64(1); b < 8; b++ {
				p := c.decide(t, 1, b)
				if b == 1 {
					value = p.Own
				}
				if p.Phase != 3 || !plan.Same(p.Value, value) {
					t.Fatalf("F %d, %s: %s, want %v", f, c.name, tell(p), value)
				}
			}
		}
	}
}

// decide has a proposal decided: all acceptors promise, but only a majority's answers arrive; and only a majority is asked to accept. Each crashes behind each of its answers.
func (c *cluster) decide(t *testing.T, epoch, ballot int64) api.Prop {
	t.Helper()
	p := proposer.Start(epoch, ballot, planOf(0, int(ballot)))
	known := policy.Zero(c.c)
	known.Epoch = epoch - 1
	prepare := api.Msg{Kind: api.MsgPrepare, From: 9, Epoch: epoch, Ballot: ballot, HasPlan: true, Plan: known}
	var answers []api.Msg
	for node := range c.acceptors {
		answers = append(answers, c.askOne(node, prepare)...)
	}
	for _, i := range c.majority() {
		p = proposer.Promise(p, c.c, answers[i])
	}
	accept := api.Msg{Kind: api.MsgAccept, From: 9, Epoch: epoch, Ballot: ballot, HasPlan: true, Plan: p.Value}
	for _, node := range c.majority() {
		for _, m := range c.askOne(node, accept) {
			p = proposer.Accepted(p, c.c, m)
		}
	}
	return p
}

// majority is a drawn one, in any order.
func (c *cluster) majority() []int { return c.r.Perm(len(c.acceptors))[:c.c.F+1] }

// askOne has an acceptor answer, crash, and come up again.
func (c *cluster) askOne(node int, m api.Msg) []api.Msg {
	a := c.acceptors[node]
	answers := a.Handle(m, c.now+5)
	a.Journal().Crash(c.r.Intn(30))
	a.Restart(c.now)
	return answers
}
