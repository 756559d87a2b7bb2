package acceptor_test

import (
	"bytes"
	"fmt"
	"slices"
	"testing"

	"locum/acceptor"
	"locum/api"
	"locum/frame"
	"locum/journal"
	"locum/msg"
	"locum/plan"
	"locum/policy"
)

const (
	maxTime = api.MaxTime
	self    = 1 // the node of the acceptors under test
)

// usual is a config like that of the shared tests: L + M is 25, S is 10.
func usual() api.Config {
	return api.Config{
		F: 1, Deciders: 2, Targets: 2, Routers: 1, Observers: 3, Tiers: []int{1, 0},
		Every: 5, Wait: 3, Rise: 2, Fall: 2, Fresh: 20, L: 20, M: 5,
		Dwell: 10, D: 3, W: 50, B: 3,
		Hit: 1000, Suppress: 1500, Reuse: 700, Half: 30,
		First: 20, Step: 40, StepTime: 5,
		S: 10, Cap: 2, Span: 10, Room: 4, Tries: 3, Retry: 5,
	}
}

// withTimes is the usual config with other times.
func withTimes(l, m, s int64) api.Config {
	c := usual()
	c.L, c.M, c.S = l, m, s
	return c
}

// configs are valid; the times that matter here are at their bounds, and between.
func configs() []api.Config {
	return []api.Config{usual(), withTimes(1, 0, 1), withTimes(3, 4, 2), withTimes(1<<20, 0, 1<<20), withTimes(1, 1<<20, 1), withTimes(1<<20, 1<<20, 1<<20)}
}

// planOf is a valid plan of an epoch that no other variant has.
func planOf(epoch int64, variant int) api.Plan {
	return api.Plan{
		Epoch: epoch, Target: variant % 2, Prev: 1 - variant%2, Spill: -1, Percent: 20 + variant%80, Stamp: 5, Since: 4, Ramped: 3,
		Up: 3, Sup: 1, Pen: []int{variant, 7}, Changes: []int64{4, 5},
	}
}

// stamped is a plan of an epoch with another Stamp.
func stamped(epoch, stamp int64) api.Plan {
	p := planOf(epoch, 1)
	p.Stamp = stamp
	return p
}

// with is a message with some fields changed.
func with(m api.Msg, change func(m *api.Msg)) api.Msg {
	change(&m)
	return m
}

// prepare asks for a promise, with the plan of the epoch before.
func prepare(epoch, ballot int64) api.Msg {
	return prepareWith(epoch, ballot, planOf(epoch-1, 9))
}

func prepareWith(epoch, ballot int64, p api.Plan) api.Msg {
	return api.Msg{Kind: api.MsgPrepare, From: 4, To: self, Epoch: epoch, Ballot: ballot, HasPlan: true, Plan: p}
}

// sealed is such a one after all targets have sealed the epoch.
func sealed(epoch, ballot int64) api.Msg {
	return with(prepare(epoch, ballot), func(m *api.Msg) { m.Code = api.CodeSealed })
}

// accept asks for a plan to be accepted.
func accept(epoch, ballot int64) api.Msg { return acceptOf(ballot, planOf(epoch, 1)) }

func acceptOf(ballot int64, p api.Plan) api.Msg {
	return api.Msg{Kind: api.MsgAccept, From: 3, To: self, Epoch: p.Epoch, Ballot: ballot, HasPlan: true, Plan: p}
}

// askWrites asks for a lease of a target, askLead for one of a decider.
func askWrites(epoch int64) api.Msg {
	return api.Msg{Kind: api.MsgAsk, From: 6, To: self, Epoch: epoch, Code: api.CodeWrite, Nonce: 77}
}

func askLead(from int) api.Msg {
	return api.Msg{Kind: api.MsgAsk, From: from, To: self, Code: api.CodeLead, Nonce: 78}
}

// promised, taken, nacked, decided and leased are the answers to m, with all fields that they have.
func promised(m api.Msg) api.Msg {
	return api.Msg{Kind: api.MsgPromise, From: self, To: m.From, Epoch: m.Epoch, Ballot: m.Ballot}
}

func promisedWith(m api.Msg, accepted int64, p api.Plan) api.Msg {
	return with(promised(m), func(m *api.Msg) { m.Accepted, m.HasPlan, m.Plan = accepted, true, p })
}

func taken(m api.Msg) api.Msg {
	return api.Msg{Kind: api.MsgAccepted, From: self, To: m.From, Epoch: m.Epoch, Ballot: m.Ballot}
}

func nacked(m api.Msg, ballot int64) api.Msg {
	return api.Msg{Kind: api.MsgNack, From: self, To: m.From, Epoch: m.Epoch, Ballot: ballot}
}

func decided(m api.Msg, p api.Plan) api.Msg {
	return api.Msg{Kind: api.MsgDecision, From: self, To: m.From, Epoch: p.Epoch, HasPlan: true, Plan: p}
}

func leased(m api.Msg) api.Msg {
	return api.Msg{Kind: api.MsgLease, From: self, To: m.From, Epoch: m.Epoch, Code: m.Code, Nonce: m.Nonce}
}

// promiseRecord, acceptedRecord, writesRecord and leadRecord are what a journal stores, with all fields that they have.
func promiseRecord(epoch, ballot int64, known api.Plan) api.Msg {
	return api.Msg{Kind: api.MsgPromise, Epoch: epoch, Ballot: ballot, HasPlan: true, Plan: known}
}

func acceptedRecord(ballot int64, p api.Plan) api.Msg {
	return api.Msg{Kind: api.MsgAccepted, Epoch: p.Epoch, Ballot: ballot, HasPlan: true, Plan: p}
}

func writesRecord(from int, epoch int64) api.Msg {
	return api.Msg{Kind: api.MsgLease, From: from, Epoch: epoch, Code: api.CodeWrite}
}

func leadRecord(from int) api.Msg {
	return api.Msg{Kind: api.MsgLease, From: from, Code: api.CodeLead}
}

// framed are the bytes of some records, one after the other.
func framed(records ...api.Msg) []byte {
	var all []byte
	for _, r := range records {
		b, err := msg.Put(r)
		if err != api.OK {
			panic(fmt.Sprintf("no record: %+v", r))
		}
		all = append(all, b...)
	}
	return all
}

// bodyOf is the body of a record.
func bodyOf(r api.Msg) []byte {
	_, body, err := msg.Body(r)
	if err != api.OK {
		panic(fmt.Sprintf("no record: %+v", r))
	}
	return body
}

// recordsIn are the records of some bytes, of which all must be whole.
func recordsIn(t *testing.T, b []byte) []api.Msg {
	t.Helper()
	kinds, bodies, end := frame.All(b)
	if end != len(b) {
		t.Errorf("%d bytes behind the records", len(b)-end)
	}
	var records []api.Msg
	for i, body := range bodies {
		r, err := msg.Of(kinds[i], body)
		if err != api.OK {
			t.Errorf("no record: %d, %x", kinds[i], body)
		}
		records = append(records, r)
	}
	return records
}

// same tells whether two lists have the same messages.
func same(a, b []api.Msg) bool { return slices.EqualFunc(a, b, msg.Same) }

// short tells a message without what is zero.
func short(m api.Msg) string {
	s := fmt.Sprintf("kind %d, %d to %d, epoch %d, ballot %d", m.Kind, m.From, m.To, m.Epoch, m.Ballot)
	if m.Accepted != 0 || m.Nonce != 0 || m.Code != 0 {
		s += fmt.Sprintf(", accepted %d, nonce %d, code %d", m.Accepted, m.Nonce, m.Code)
	}
	if m.HasPlan {
		s += fmt.Sprintf(", plan %v", m.Plan)
	}
	return s
}

func shorts(l []api.Msg) string {
	s := ""
	for _, m := range l {
		s += "{" + short(m) + "}"
	}
	return "[" + s + "]"
}

// scene is an acceptor under test.
type scene struct {
	t    *testing.T
	name string
	*acceptor.Acceptor
}

// play is a scene with a new acceptor.
func play(t *testing.T, name string, c api.Config) scene {
	t.Helper()
	a := acceptor.New(c, self)
	if a == nil {
		t.Fatalf("%s: New: nil", name)
	}
	return scene{t, name, a}
}

// says holds the answer to a message, which must be these messages, or none.
func (s scene) says(m api.Msg, now int64, want ...api.Msg) {
	s.t.Helper()
	if got := s.Handle(m, now); !same(got, want) {
		s.t.Errorf("%s: %s at %d: %s, want %s", s.name, short(m), now, shorts(got), shorts(want))
	}
}

// has holds what State returns.
func (s scene) has(epoch, ballot, accepted int64, p api.Plan) {
	s.t.Helper()
	if e, b, x, q := s.State(); e != epoch || b != ballot || x != accepted || !plan.Same(p, q) {
		s.t.Errorf("%s: State = %d, %d, %d, %v, want %d, %d, %d, %v", s.name, e, b, x, q, epoch, ballot, accepted, p)
	}
}

// hasNothing holds that State returns what it does at first.
func (s scene) hasNothing() {
	s.t.Helper()
	s.has(0, 0, 0, api.Plan{})
}

// wrote holds the records that are synced, none being left in the tail.
func (s scene) wrote(want ...api.Msg) {
	s.t.Helper()
	if got := recordsIn(s.t, s.Journal().Synced()); !same(got, want) || len(s.Journal().Tail()) != 0 {
		s.t.Errorf("%s: records %s, want %s; %d bytes in the tail", s.name, shorts(got), shorts(want), len(s.Journal().Tail()))
	}
}

// put puts records onto the disk, past the acceptor.
func (s scene) put(records ...api.Msg) {
	s.t.Helper()
	for _, r := range records {
		s.lay(byte(r.Kind), bodyOf(r))
	}
}

// lay puts any bytes as a record onto the disk.
func (s scene) lay(kind byte, body []byte) {
	s.t.Helper()
	if s.Journal().Append(kind, body) != api.OK || s.Journal().Sync() != api.OK {
		s.t.Fatalf("%s: the journal takes nothing", s.name)
	}
}

// restarts has the acceptor come up, which must succeed.
func (s scene) restarts(now int64) {
	s.t.Helper()
	if err := s.Restart(now); err != api.OK {
		s.t.Fatalf("%s: Restart: %v", s.name, err)
	}
}

// restored is a scene whose acceptor has come up with these records.
func restored(t *testing.T, name string, c api.Config, now int64, records ...api.Msg) scene {
	t.Helper()
	s := play(t, name, c)
	s.put(records...)
	s.restarts(now)
	return s
}

// words is an acceptor by the document's words, with a journal of its own.
type words struct {
	c        api.Config
	disk     *journal.Journal
	epoch    int64
	known    api.Plan
	promised int64
	accepted int64
	plan     api.Plan
	low      int64
	high     int64
	granted  int64 // when writes were, last
	wish     int64
	wished   int64
	led      bool
	leader   int
	lead     int64 // when it was granted, last
}

func newWords(c api.Config) *words {
	return &words{c: c, disk: journal.New(), known: policy.Zero(c), leader: -1}
}

func (w *words) state() (int64, int64, int64, api.Plan) {
	if w.accepted == 0 {
		return w.epoch, w.promised, 0, api.Plan{}
	}
	return w.epoch, w.promised, w.accepted, w.plan
}

func (w *words) restart(now int64) api.Errno {
	disk := w.disk
	*w = *newWords(w.c)
	w.disk = disk
	kinds, bodies, err := disk.Open()
	for i := range kinds {
		if r, e := msg.Of(kinds[i], bodies[i]); e == api.OK {
			w.replay(r)
		}
	}
	if err == api.OK && (w.low != 0 || w.high != 0) {
		w.granted = now
	}
	if err == api.OK && w.led {
		w.lead = now
	}
	return err
}

func (w *words) replay(r api.Msg) {
	switch {
	case r.Kind == api.MsgPromise:
		old := w.epoch
		w.epoch, w.known, w.promised = r.Epoch, r.Plan, r.Ballot
		if r.Epoch == old {
			return
		}
		w.accepted, w.plan = 0, api.Plan{}
		if w.high >= r.Epoch {
			if r.Epoch > w.low {
				w.low = r.Epoch
			}
		} else {
			w.low, w.high = 0, 0
		}
	case r.Kind == api.MsgAccepted:
		w.accepted, w.plan, w.promised = r.Ballot, r.Plan, r.Ballot
	case r.Kind == api.MsgLease && r.Code == 1:
		if w.low == 0 && w.high == 0 {
			w.low, w.high = r.Epoch, r.Epoch
		} else if r.Epoch < w.low {
			w.low = r.Epoch
		} else if r.Epoch > w.high {
			w.high = r.Epoch
		}
	case r.Kind == api.MsgLease && r.Code == 2:
		w.led, w.leader = true, -1
	}
}

// remember reports whether a record was remembered, and replayed.
func (w *words) remember(r api.Msg) bool {
	kind, body, _ := msg.Body(r)
	if w.disk.Append(kind, body) != api.OK {
		return false
	}
	if w.disk.Sync() != api.OK {
		return false
	}
	w.replay(r)
	return true
}

func (w *words) handle(m api.Msg, now int64) []api.Msg {
	if !msg.Right(m) || now < 0 || now > maxTime || w.disk.Down() {
		return nil
	}
	switch {
	case m.Kind == api.MsgPrepare:
		return w.onPrepare(m, now)
	case m.Kind == api.MsgAccept:
		return w.onAccept(m, now)
	case m.Kind == api.MsgAsk && m.Code == 1:
		return w.onAskWrites(m, now)
	case m.Kind == api.MsgAsk && m.Code == 2:
		return w.onAskLead(m, now)
	}
	return nil
}

func (w *words) onPrepare(m api.Msg, now int64) []api.Msg {
	if m.Epoch < 1 || m.Ballot < 1 || !m.HasPlan || m.Plan.Epoch+1 != m.Epoch {
		return nil
	}
	if m.Epoch < w.epoch {
		return []api.Msg{decided(m, w.known)}
	}
	if m.Epoch == w.epoch {
		if m.Ballot <= w.promised {
			return []api.Msg{nacked(m, w.promised)}
		}
		if !w.remember(promiseRecord(w.epoch, m.Ballot, w.known)) {
			return nil
		}
		if w.accepted != 0 {
			return []api.Msg{promisedWith(m, w.accepted, w.plan)}
		}
		return []api.Msg{promised(m)}
	}
	if w.low != 0 && w.low < m.Epoch && now-w.c.L-w.c.M < w.granted && m.Code != 1 {
		if m.Epoch > w.wish {
			w.wish = m.Epoch
		}
		w.wished = now
		return nil
	}
	if !w.remember(promiseRecord(m.Epoch, m.Ballot, m.Plan)) {
		return nil
	}
	return []api.Msg{promised(m)}
}

func (w *words) onAccept(m api.Msg, now int64) []api.Msg {
	if m.Epoch < 1 || m.Ballot < 1 || !m.HasPlan || m.Plan.Epoch != m.Epoch || m.Epoch > w.epoch {
		return nil
	}
	if m.Epoch < w.epoch {
		return []api.Msg{decided(m, w.known)}
	}
	if m.Ballot < w.promised {
		return []api.Msg{nacked(m, w.promised)}
	}
	if m.Ballot != w.promised || m.Plan.Stamp > now+w.c.S || !w.remember(acceptedRecord(m.Ballot, m.Plan)) {
		return nil
	}
	return []api.Msg{taken(m)}
}

func (w *words) onAskWrites(m api.Msg, now int64) []api.Msg {
	if m.Epoch < 1 || m.Epoch < w.epoch {
		return nil
	}
	if m.Epoch < w.wish && now-2*(w.c.L+w.c.M) < w.wished {
		return nil
	}
	if w.low == 0 || m.Epoch < w.low || m.Epoch > w.high {
		if !w.remember(writesRecord(m.From, m.Epoch)) {
			return nil
		}
	}
	w.granted = now
	return []api.Msg{leased(m)}
}

func (w *words) onAskLead(m api.Msg, now int64) []api.Msg {
	if w.led && w.leader != m.From && now-w.c.L-w.c.M < w.lead {
		return nil
	}
	if !w.led || w.leader != m.From {
		if !w.remember(leadRecord(m.From)) {
			return nil
		}
	}
	w.leader, w.lead = m.From, now
	return []api.Msg{leased(m)}
}

// event is something that happens to an acceptor.
type event struct {
	what what
	m    api.Msg
	now  int64
	n    int
}

type what int

const (
	get     what = iota // it gets the message m at now
	crash               // its journal crashes, and keeps n bytes
	fuse                // its journal's fuse is n
	restart             // it comes up at now
	lay                 // the record m is put onto its disk
	open                // its journal comes up, past it
)

func gets(m api.Msg, now int64) event { return event{what: get, m: m, now: now} }
func crashes(keep int) event          { return event{what: crash, n: keep} }
func fuses(n int) event               { return event{what: fuse, n: n} }
func restarts(now int64) event        { return event{what: restart, now: now} }
func lays(record api.Msg) event       { return event{what: lay, m: record} }
func opens() event                    { return event{what: open} }

func (e event) String() string {
	switch e.what {
	case get:
		return fmt.Sprintf("%s, at %d", short(e.m), e.now)
	case crash:
		return fmt.Sprintf("crash, %d kept", e.n)
	case fuse:
		return fmt.Sprintf("fuse %d", e.n)
	case restart:
		return fmt.Sprintf("restart at %d", e.now)
	case lay:
		return fmt.Sprintf("record %s", short(e.m))
	}
	return "open"
}

// to does what an event does to a journal.
func (e event) to(j *journal.Journal) {
	switch e.what {
	case crash:
		j.Crash(e.n)
	case fuse:
		j.Fuse(e.n)
	case lay:
		j.Append(byte(e.m.Kind), bodyOf(e.m))
		j.Sync()
	case open:
		j.Open()
	}
}

// pair is an acceptor under test, and one by the document's words.
type pair struct {
	scene
	w *words
}

func pairOf(t *testing.T, name string, c api.Config) pair {
	t.Helper()
	return pair{play(t, name, c), newWords(c)}
}

// happens has some events happen to both, which must come out alike.
func (p pair) happens(events ...event) {
	p.t.Helper()
	for _, e := range events {
		var got, want []api.Msg
		var err, wantErr api.Errno
		switch e.what {
		case get:
			got, want = p.Handle(e.m, e.now), p.w.handle(e.m, e.now)
		case restart:
			err, wantErr = p.Restart(e.now), p.w.restart(e.now)
		default:
			e.to(p.Journal())
			e.to(p.w.disk)
		}
		if !same(got, want) || err != wantErr {
			p.t.Fatalf("%s: %v: %s, %v, want %s, %v", p.name, e, shorts(got), err, shorts(want), wantErr)
		}
		p.alike(e)
	}
}

// alike holds that both have the same state, and the same journal.
func (p pair) alike(e event) {
	p.t.Helper()
	j, want := p.Journal(), p.w.disk
	if !bytes.Equal(j.Synced(), want.Synced()) || !bytes.Equal(j.Tail(), want.Tail()) || j.Down() != want.Down() {
		p.t.Fatalf("%s: %v: synced %x, tail %x, down %v, want %x, %x, %v", p.name, e, j.Synced(), j.Tail(), j.Down(), want.Synced(), want.Tail(), want.Down())
	}
	epoch, ballot, accepted, plan := p.w.state()
	p.has(epoch, ballot, accepted, plan)
}
