package fence_test

import (
	"fmt"
	"slices"
	"testing"

	"locum/api"
	"locum/fence"
	"locum/frame"
	"locum/msg"
	"locum/plan"
	"locum/policy"
)

const (
	maxTime = api.MaxTime
	self    = 1 // the index of the targets under test
	node    = 6 // its node, with the usual config
)

// usual is a config like that of the shared tests, with one target more: L is 20, Cap 2, Span 10.
func usual() api.Config {
	return api.Config{
		F: 1, Deciders: 2, Targets: 3, Routers: 1, Observers: 3, Tiers: []int{1, 0, 2},
		Every: 5, Wait: 3, Rise: 2, Fall: 2, Fresh: 20, L: 20, M: 5,
		Dwell: 10, D: 3, W: 50, B: 3,
		Hit: 1000, Suppress: 1500, Reuse: 700, Half: 30,
		First: 20, Step: 40, StepTime: 5,
		S: 10, Cap: 2, Span: 10, Room: 4, Tries: 3, Retry: 5,
	}
}

// with is a message, a plan or a config with some fields changed.
func with[T api.Msg | api.Plan | api.Config](x T, change func(x *T)) T {
	change(&x)
	return x
}

// lasting is the usual config with another L, and with a window that has room for all.
func lasting(l int64) api.Config {
	return with(usual(), func(c *api.Config) { c.L, c.Cap = l, 1000 })
}

// windowed is the usual config with another window, and with the longest lease.
func windowed(size int, span int64) api.Config {
	return with(usual(), func(c *api.Config) { c.Cap, c.Span, c.L = size, span, 1<<20 })
}

// configs are valid; what matters here is at its bounds, and between.
func configs() []api.Config {
	one := with(usual(), func(c *api.Config) { c.F, c.Targets, c.Tiers = 0, 1, []int{15} })
	all := with(usual(), func(c *api.Config) {
		c.F, c.Deciders, c.Routers, c.Observers, c.Targets, c.Tiers = 3, 4, 4, 7, 16, make([]int, 16)
	})
	return []api.Config{usual(), lasting(1), lasting(1 << 20), windowed(1, 1), windowed(1000, 1<<20), one, all}
}

// planOf is a plan that fits the usual config, and whose Target is the target under test.
func planOf(epoch int64) api.Plan {
	return api.Plan{
		Epoch: epoch, Target: self, Prev: 0, Spill: 2, Percent: 60, Stamp: 5, Since: 4, Ramped: 3,
		Up: 7, Sup: 1, Pen: []int{1, 2, 3}, Changes: []int64{4, 5},
	}
}

// elsewhere is one that does not name the target under test.
func elsewhere(epoch int64) api.Plan {
	return with(planOf(epoch), func(p *api.Plan) { p.Target, p.Prev, p.Spill, p.Percent = 0, self, 2, 100 })
}

// namer is a plan that is made of an epoch, and whether it names the target under test.
type namer struct {
	name  string
	plan  func(epoch int64) api.Plan
	names bool
}

// namers are all ways in which a plan names the target under test, and in which it does not.
func namers() []namer {
	of := func(target, prev, spill, percent int) func(epoch int64) api.Plan {
		return func(epoch int64) api.Plan {
			return with(planOf(epoch), func(p *api.Plan) { p.Target, p.Prev, p.Spill, p.Percent = target, prev, spill, percent })
		}
	}
	return []namer{
		{"target", of(self, 0, 2, 60), true},
		{"target alone", of(self, -1, -1, 100), true},
		{"target, without percents", of(self, 0, 2, 0), true},
		{"previous one", of(0, self, 2, 60), true},
		{"previous one, 99 percents", of(0, self, 2, 99), true},
		{"previous one, 0 percents", of(0, self, -1, 0), true},
		{"previous one, 100 percents", of(0, self, 2, 100), false},
		{"spill", of(0, 2, self, 60), true},
		{"spill, 100 percents", of(0, 2, self, 100), true},
		{"nowhere", of(0, 2, 2, 60), false},
		{"nobody", of(-1, -1, -1, 0), false},
	}
}

// id is the ID of a request.
func id(n int64) []int64 { return []int64{0, 1, n} }

// decision tells a plan, seal and probe ask for what they are named after, write for a request to be written.
func decision(p api.Plan) api.Msg {
	return api.Msg{Kind: api.MsgDecision, From: 3, To: node, Epoch: p.Epoch, HasPlan: true, Plan: p}
}

func seal(epoch int64) api.Msg {
	return api.Msg{Kind: api.MsgSeal, From: 4, To: node, Epoch: epoch}
}

func probe(nonce int64) api.Msg {
	return api.Msg{Kind: api.MsgProbe, From: 9, To: node, Nonce: nonce}
}

func write(n, epoch int64) api.Msg {
	return api.Msg{Kind: api.MsgWrite, From: 8, To: node, Epoch: epoch, ID: id(n), Session: []byte("session"), Payload: fmt.Appendf(nil, "payload %d", n)}
}

// grant is an acceptor's, of a lease for writes.
func grant(from int, epoch, nonce int64) api.Msg {
	return api.Msg{Kind: api.MsgLease, From: from, To: node, Epoch: epoch, Code: api.CodeWrite, Nonce: nonce}
}

// alive, sealed, wrote and refused are the answers to m, with all fields that they have.
func alive(m api.Msg) api.Msg {
	return api.Msg{Kind: api.MsgAlive, From: node, To: m.From, Nonce: m.Nonce}
}

func sealed(m api.Msg) api.Msg {
	return api.Msg{Kind: api.MsgSealed, From: node, To: m.From, Epoch: m.Epoch}
}

func wrote(m api.Msg, epoch int64) api.Msg {
	return api.Msg{Kind: api.MsgReply, From: node, To: m.From, Epoch: epoch, ID: m.ID, Code: api.CodeOK}
}

func refused(m api.Msg) api.Msg {
	return api.Msg{Kind: api.MsgReply, From: node, To: m.From, Epoch: m.Epoch, ID: m.ID, Code: api.CodeNo}
}

// asks are what the acceptors are asked for, with all fields that it has.
func asks(epoch, now int64) []api.Msg { return asksOf(usual(), self, epoch, now) }

func asksOf(c api.Config, index int, epoch, now int64) []api.Msg {
	var l []api.Msg
	for to := range 2*c.F + 1 {
		l = append(l, api.Msg{Kind: api.MsgAsk, From: api.TargetNode(c, index), To: to, Epoch: epoch, Code: api.CodeWrite, Nonce: now})
	}
	return l
}

// fenceRecord, writeRecord and closeRecord are what a journal stores, with all fields that they have.
func fenceRecord(epoch int64) api.Msg { return api.Msg{Kind: api.RecFence, Epoch: epoch} }

func writeRecord(m api.Msg) api.Msg {
	return api.Msg{Kind: api.MsgWrite, Epoch: m.Epoch, ID: m.ID, Payload: m.Payload}
}

func closeRecord(m api.Msg) api.Msg { return api.Msg{Kind: api.RecClose, ID: m.ID} }

// entry is what is in the log behind a write.
func entry(m api.Msg) api.Entry { return api.Entry{ID: m.ID, Epoch: m.Epoch, Payload: m.Payload} }

// entries and ids are what is in the log, and what is closed, behind some writes.
func entries(l ...api.Msg) []api.Entry {
	var log []api.Entry
	for _, m := range l {
		log = append(log, entry(m))
	}
	return log
}

func ids(l ...api.Msg) [][]int64 {
	var closed [][]int64
	for _, m := range l {
		closed = append(closed, m.ID)
	}
	return closed
}

// framed are the bytes of some records, one after the other.
func framed(l ...api.Msg) []byte {
	var all []byte
	for _, r := range l {
		b, err := msg.Put(r)
		if err != api.OK {
			panic(fmt.Sprintf("no record: %+v", r))
		}
		all = append(all, b...)
	}
	return all
}

// bodyOf is the body of a record.
func bodyOf(r api.Msg) []byte {
	_, body, err := msg.Body(r)
	if err != api.OK {
		panic(fmt.Sprintf("no record: %+v", r))
	}
	return body
}

// recordsIn are the records of some bytes, of which all must be whole.
func recordsIn(t *testing.T, b []byte) []api.Msg {
	t.Helper()
	kinds, bodies, end := frame.All(b)
	if end != len(b) {
		t.Errorf("%d bytes behind the records", len(b)-end)
	}
	var l []api.Msg
	for i, body := range bodies {
		r, err := msg.Of(kinds[i], body)
		if err != api.OK {
			t.Errorf("no record: %d, %x", kinds[i], body)
		}
		l = append(l, r)
	}
	return l
}

// same tells whether two lists have the same messages, sameLog and sameIDs whether they have the same entries and IDs.
func same(a, b []api.Msg) bool { return slices.EqualFunc(a, b, msg.Same) }

func sameEntry(a, b api.Entry) bool {
	return slices.Equal(a.ID, b.ID) && a.Epoch == b.Epoch && slices.Equal(a.Payload, b.Payload)
}

func sameLog(a, b []api.Entry) bool { return slices.EqualFunc(a, b, sameEntry) }

func sameIDs(a, b [][]int64) bool { return slices.EqualFunc(a, b, slices.Equal) }

// short tells a message without what is zero.
func short(m api.Msg) string {
	s := fmt.Sprintf("kind %d, %d to %d, epoch %d", m.Kind, m.From, m.To, m.Epoch)
	if m.Nonce != 0 || m.Code != 0 {
		s += fmt.Sprintf(", nonce %d, code %d", m.Nonce, m.Code)
	}
	if len(m.ID) > 0 || len(m.Session) > 0 || len(m.Payload) > 0 {
		s += fmt.Sprintf(", ID %v, %q, %q", m.ID, m.Session, m.Payload)
	}
	if m.HasPlan {
		s += fmt.Sprintf(", plan %v", m.Plan)
	}
	return s
}

func shorts(l []api.Msg) string {
	s := ""
	for _, m := range l {
		s += "{" + short(m) + "}"
	}
	return "[" + s + "]"
}

// scene is a target under test.
type scene struct {
	t    *testing.T
	name string
	*fence.Target
}

// play is a scene with a new target.
func play(t *testing.T, name string, c api.Config) scene {
	t.Helper()
	x := fence.New(c, self)
	if x == nil {
		t.Fatalf("%s: New: nil", name)
	}
	return scene{t, name, x}
}

// says holds the answer to a message, which must be these messages, or none.
func (s scene) says(m api.Msg, now int64, want ...api.Msg) {
	s.t.Helper()
	if got := s.Handle(m, now); !same(got, want) {
		s.t.Errorf("%s: %s at %d: %s, want %s", s.name, short(m), now, shorts(got), shorts(want))
	}
}

// ticks holds what a Tick returns, which must be these messages, or none.
func (s scene) ticks(now int64, want ...api.Msg) {
	s.t.Helper()
	if got := s.Tick(now); !same(got, want) {
		s.t.Errorf("%s: Tick(%d): %s, want %s", s.name, now, shorts(got), shorts(want))
	}
}

// has holds the fence, what is in the log, and what is closed.
func (s scene) has(fence int64, log []api.Entry, closed [][]int64) {
	s.t.Helper()
	if s.Fence() != fence || !sameLog(s.Log(), log) || !sameIDs(s.Closed(), closed) {
		s.t.Errorf("%s: fence %d, log %v, closed %v, want %d, %v, %v", s.name, s.Fence(), s.Log(), s.Closed(), fence, log, closed)
	}
}

// knows holds the known plan.
func (s scene) knows(p api.Plan) {
	s.t.Helper()
	if !plan.Same(s.Known(), p) {
		s.t.Errorf("%s: known is %v, want %v", s.name, s.Known(), p)
	}
}

// hasNothing holds that a target with the usual config has what it has at first.
func (s scene) hasNothing() {
	s.t.Helper()
	s.has(0, nil, nil)
	s.knows(policy.Zero(usual()))
}

// stored holds the records that are synced, none being left in the tail.
func (s scene) stored(want ...api.Msg) {
	s.t.Helper()
	if got := recordsIn(s.t, s.Journal().Synced()); !same(got, want) || len(s.Journal().Tail()) != 0 {
		s.t.Errorf("%s: records %s, want %s; %d bytes in the tail", s.name, shorts(got), shorts(want), len(s.Journal().Tail()))
	}
}

// put puts records onto the disk, past the target.
func (s scene) put(l ...api.Msg) {
	s.t.Helper()
	for _, r := range l {
		s.lay(byte(r.Kind), bodyOf(r))
	}
}

// lay puts any bytes as a record onto the disk.
func (s scene) lay(kind byte, body []byte) {
	s.t.Helper()
	if s.Journal().Append(kind, body) != api.OK || s.Journal().Sync() != api.OK {
		s.t.Fatalf("%s: the journal takes nothing", s.name)
	}
}

// restarts has the target come up, which must succeed.
func (s scene) restarts(now int64) {
	s.t.Helper()
	if err := s.Restart(now); err != api.OK {
		s.t.Fatalf("%s: Restart: %v", s.name, err)
	}
}

// learns has the target know a plan.
func (s scene) learns(p api.Plan) {
	s.t.Helper()
	s.says(decision(p), 0)
	s.knows(p)
}

// leases has the target ask for a lease, and a majority grant it.
func (s scene) leases(epoch, at int64) {
	s.t.Helper()
	s.ticks(at, asks(epoch, at)...)
	s.says(grant(0, epoch, at), at)
	s.says(grant(2, epoch, at), at)
}

// restored is a scene whose target has come up with these records.
func restored(t *testing.T, name string, c api.Config, now int64, l ...api.Msg) scene {
	t.Helper()
	s := play(t, name, c)
	s.put(l...)
	s.restarts(now)
	return s
}

// ready is a scene whose target knows planOf an epoch, and has a lease for it from at on.
func ready(t *testing.T, name string, c api.Config, epoch, at int64) scene {
	t.Helper()
	s := play(t, name, c)
	s.learns(planOf(epoch))
	s.leases(epoch, at)
	return s
}

// busy is a target with something of everything: fence 4, writes 3 and 1 of epochs 3 and 4, 2 is closed, planOf(4), a lease till 124 that was asked for again at 114 and has one grant, a window with one write since 106.
func busy(t *testing.T, name string) scene {
	t.Helper()
	s := play(t, name, usual())
	s.learns(planOf(3))
	s.leases(3, 90)
	s.says(write(3, 3), 95, wrote(write(3, 3), 3))
	s.says(write(2, 2), 96, refused(write(2, 2)))
	s.learns(planOf(4))
	s.leases(4, 104)
	s.says(write(1, 4), 106, wrote(write(1, 4), 4))
	s.ticks(114, asks(4, 114)...)
	s.says(grant(0, 4, 114), 114)
	s.isBusy()
	return s
}

// isBusy holds what a busy target shows.
func (s scene) isBusy() {
	s.t.Helper()
	s.hasBusyParts()
	s.knows(planOf(4))
	s.stored(busyRecords()...)
}

// hasBusyParts holds of that what a restart restores.
func (s scene) hasBusyParts() {
	s.t.Helper()
	s.has(4, entries(write(3, 3), write(1, 4)), ids(write(2, 0)))
}

// busyRecords are what a busy target has in its journal.
func busyRecords() []api.Msg {
	return []api.Msg{writeRecord(write(3, 3)), closeRecord(write(2, 2)), writeRecord(write(1, 4))}
}

// busyRows are rows of events by which a busy target can be told from one that differs from it in any part.
func busyRows() [][]event {
	return [][]event{
		{gets(write(7, 4), 115), gets(write(8, 4), 115), gets(write(9, 4), 116), gets(write(10, 4), 117), gets(write(11, 4), 118)}, // the window
		{gets(write(7, 4), 123)},
		{gets(write(7, 4), 124)},
		{gets(grant(2, 4, 114), 116), gets(write(7, 4), 133)},
		{gets(grant(2, 4, 114), 116), gets(write(7, 4), 134)},
		{gets(grant(0, 4, 114), 116), gets(write(7, 4), 124)},
		{gets(grant(2, 4, 104), 116), gets(write(7, 4), 124)},
		{ticks(123), ticks(124), gets(write(7, 4), 124)},
		{gets(probe(5), 115)},
		{gets(write(3, 9), 115), gets(write(2, 9), 115), gets(write(1, 9), 115)},
		{gets(seal(4), 115), gets(seal(5), 115), gets(write(7, 4), 115)},
		{gets(decision(planOf(5)), 115), ticks(115), gets(write(7, 5), 115), gets(write(8, 4), 115)},
		{gets(decision(elsewhere(4)), 115), gets(write(7, 4), 115)},
		{gets(write(7, 5), 115), gets(write(7, 3), 115), gets(write(7, 4), 115)},
	}
}
