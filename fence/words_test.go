package fence_test

import (
	"bytes"
	"fmt"
	"testing"

	"locum/api"
	"locum/fence"
	"locum/journal"
	"locum/msg"
	"locum/plan"
	"locum/policy"
)

// player is a target under test, or one by the document's words.
type player interface {
	Handle(m api.Msg, now int64) []api.Msg
	Tick(now int64) []api.Msg
	Restart(now int64) api.Errno
	Flip(well bool)
	Journal() *journal.Journal
	Log() []api.Entry
	Closed() [][]int64
	Fence() int64
	Known() api.Plan
}

// event is something that happens to a player.
type event struct {
	what what
	m    api.Msg
	now  int64
	n    int
}

type what int

const (
	get     what = iota // it gets the message m at now
	tick                // it ticks at now
	flip                // it is well if n is odd
	crash               // its journal crashes, and keeps n bytes
	fuse                // its journal's fuse is n
	restart             // it comes up at now
	lay                 // the record m is put onto its disk
)

func gets(m api.Msg, now int64) event { return event{what: get, m: m, now: now} }
func ticks(now int64) event           { return event{what: tick, now: now} }
func flips(n int) event               { return event{what: flip, n: n} }
func crashes(keep int) event          { return event{what: crash, n: keep} }
func fuses(n int) event               { return event{what: fuse, n: n} }
func restarts(now int64) event        { return event{what: restart, now: now} }
func lays(record api.Msg) event       { return event{what: lay, m: record} }

func (e event) String() string {
	switch e.what {
	case get:
		return fmt.Sprintf("%s, at %d", short(e.m), e.now)
	case tick:
		return fmt.Sprintf("tick at %d", e.now)
	case flip:
		return fmt.Sprintf("well %v", e.n%2 == 1)
	case crash:
		return fmt.Sprintf("crash, %d kept", e.n)
	case fuse:
		return fmt.Sprintf("fuse %d", e.n)
	case restart:
		return fmt.Sprintf("restart at %d", e.now)
	}
	return fmt.Sprintf("record %s", short(e.m))
}

// to has an event happen to a player, and returns what that returns.
func (e event) to(p player) ([]api.Msg, api.Errno) {
	j := p.Journal()
	switch e.what {
	case get:
		return p.Handle(e.m, e.now), api.OK
	case tick:
		return p.Tick(e.now), api.OK
	case restart:
		return nil, p.Restart(e.now)
	case flip:
		p.Flip(e.n%2 == 1)
	case crash:
		j.Crash(e.n)
	case fuse:
		j.Fuse(e.n)
	case lay:
		j.Append(byte(e.m.Kind), bodyOf(e.m))
		j.Sync()
	}
	return nil, api.OK
}

// words is a target by the document's words, with a journal of its own; but for a fault, if it has one, which is there to show that the scripts tell it.
type words struct {
	c      api.Config
	index  int
	disk   *journal.Journal
	sick   bool
	fault  string
	fence  int64
	known  api.Plan
	hold   api.Hold
	log    []api.Entry
	closed [][]int64
	began  int64
	count  int
}

func newWords(c api.Config, index int, fault string) *words {
	return &words{c: c, index: index, disk: journal.New(), known: policy.Zero(c), fault: fault}
}

func (w *words) Flip(well bool)            { w.sick = !well }
func (w *words) Journal() *journal.Journal { return w.disk }
func (w *words) Log() []api.Entry          { return append([]api.Entry(nil), w.log...) }
func (w *words) Closed() [][]int64         { return append([][]int64(nil), w.closed...) }
func (w *words) Fence() int64              { return w.fence }
func (w *words) Known() api.Plan           { return w.known }

func (w *words) Restart(now int64) api.Errno {
	old := *w
	*w = *newWords(w.c, w.index, w.fault)
	w.disk, w.sick = old.disk, old.sick
	kinds, bodies, err := w.disk.Open()
	if err != api.OK {
		return err
	}
	for i := range kinds {
		r, e := msg.Of(kinds[i], bodies[i])
		if e == api.OK && !(w.fault == "the log is forgotten" && r.Kind == 14) && !(w.fault == "what is closed is forgotten" && r.Kind == 18) {
			w.replay(r)
		}
	}
	w.began = now
	return api.OK
}

func (w *words) replay(r api.Msg) {
	if r.Kind == 18 {
		w.closed = append(w.closed, r.ID)
	}
	if r.Kind == 14 {
		w.log = append(w.log, api.Entry{ID: r.ID, Epoch: r.Epoch, Payload: r.Payload})
	}
	if r.Kind == 19 || r.Kind == 14 && w.fault != "a write does not raise the fence" {
		if r.Epoch > w.fence {
			w.fence = r.Epoch
		}
	}
}

// remember reports whether a record was remembered, and replayed.
func (w *words) remember(r api.Msg) bool {
	kind, body, _ := msg.Body(r)
	if w.disk.Append(kind, body) != api.OK {
		return false
	}
	if w.fault == "what is not synced is answered" {
		w.disk.Sync()
		w.replay(r)
		return true
	}
	if w.disk.Sync() != api.OK {
		return false
	}
	w.replay(r)
	return true
}

func (w *words) Handle(m api.Msg, now int64) []api.Msg {
	if !msg.Right(m) || now < 0 || now > maxTime || w.disk.Down() {
		return nil
	}
	answer := api.Msg{From: 2*w.c.F + 1 + w.c.Deciders + w.index, To: m.From}
	switch m.Kind {
	case 1:
		if w.sick {
			return nil
		}
		answer.Kind, answer.Nonce = 2, m.Nonce
	case 12:
		if m.Epoch < 1 {
			return nil
		}
		if w.fault == "a seal is not remembered" && m.Epoch > w.fence {
			w.fence = m.Epoch
		}
		if m.Epoch > w.fence && !w.remember(api.Msg{Kind: 19, Epoch: m.Epoch}) {
			return nil
		}
		answer.Kind, answer.Epoch = 13, m.Epoch
	case 14:
		epoch, code, is := w.outcome(m, now)
		if len(m.ID) == 0 || !is {
			return nil
		}
		answer.Kind, answer.Epoch, answer.ID, answer.Code = 15, epoch, m.ID, code
	default:
		w.hear(m)
		return nil
	}
	return []api.Msg{answer}
}

// hear takes a message that has no answer.
func (w *words) hear(m api.Msg) {
	switch {
	case m.Kind == 9 && m.HasPlan:
		p := m.Plan
		if len(p.Pen) == w.c.Targets && p.Target < w.c.Targets && p.Prev < w.c.Targets && p.Spill < w.c.Targets &&
			p.Up < 1<<w.c.Targets && p.Sup < 1<<w.c.Targets && len(p.Changes) <= w.c.B && p.Epoch > w.known.Epoch {
			w.known = p
		}
	case m.Kind == 11 && m.Code == 1:
		if w.fault == "grants of any request" {
			m.Nonce = w.hold.Nonce
		}
		w.hold = w.granted(m)
	}
}

// granted is lease.Grant by the words of layer 17.
func (w *words) granted(m api.Msg) api.Hold {
	h := w.hold
	if m.Epoch != h.Epoch || m.Nonce != h.Nonce || m.From > 2*w.c.F {
		return h
	}
	h.Grants |= 1 << m.From
	size := 0
	for i := range 2*w.c.F + 1 {
		if h.Grants>>i&1 == 1 {
			size++
		}
	}
	least := w.c.F + 1
	if w.fault == "one grant too few" {
		least = max(w.c.F, 1)
	}
	if size >= least && h.Nonce+w.c.L > h.Until {
		h.Until = h.Nonce + w.c.L
	}
	return h
}

// find is the place of an ID in the log, or -1, and whether it is closed.
func (w *words) find(id []int64) (int, bool) {
	at, closed := -1, false
	for i, e := range w.log {
		if at < 0 && fmt.Sprint(e.ID) == fmt.Sprint(id) && w.fault != "the log is not looked at" {
			at = i
		}
	}
	for _, other := range w.closed {
		if fmt.Sprint(other) == fmt.Sprint(id) && w.fault != "what is closed is not looked at" {
			closed = true
		}
	}
	return at, closed
}

// outcome is what is answered to a write, if anything is.
func (w *words) outcome(m api.Msg, now int64) (int64, int, bool) {
	if len(m.ID) == 0 {
		return 0, 0, false
	}
	at, closed := w.find(m.ID)
	if at >= 0 {
		return w.log[at].Epoch, 0, true
	}
	if closed {
		return m.Epoch, 1, true
	}
	if m.Epoch > w.known.Epoch {
		return 0, 0, false
	}
	mine := plan.Names(w.known, w.index) || w.fault == "whom the plan names does not matter"
	current := m.Epoch == w.known.Epoch || w.fault == "any epoch that is known" && m.Epoch >= w.fence
	if mine && current && (m.Epoch >= w.fence || w.fault == "the fence is not looked at") {
		if !w.leased(m.Epoch, now) {
			return 0, 0, false
		}
		if w.began <= now-w.c.Span {
			w.began, w.count = now, 0
		}
		if w.count < w.c.Cap {
			if !w.remember(api.Msg{Kind: 14, ID: m.ID, Epoch: m.Epoch, Payload: m.Payload}) {
				return 0, 0, false
			}
			w.count++
			return m.Epoch, 0, true
		}
	}
	return m.Epoch, 1, w.remember(api.Msg{Kind: 18, ID: m.ID})
}

// leased tells whether the lease is live.
func (w *words) leased(epoch, now int64) bool {
	switch w.fault {
	case "the lease is not looked at":
		return true
	case "live at the end, too":
		return w.hold.Epoch == epoch && w.hold.Until > 0 && now <= w.hold.Until
	case "a lease of any epoch":
		return now < w.hold.Until
	case "any epoch that is known":
		return w.hold.Epoch == w.known.Epoch && now < w.hold.Until
	}
	return w.hold.Epoch == epoch && now < w.hold.Until
}

func (w *words) Tick(now int64) []api.Msg {
	if now < 0 || now > maxTime || w.disk.Down() || !plan.Names(w.known, w.index) && w.fault != "whom the plan names does not matter" {
		return nil
	}
	pause := w.c.L / 2
	if pause == 0 {
		pause = 1
	}
	if w.hold.Epoch == w.known.Epoch && now-w.hold.Nonce < pause {
		return nil
	}
	until := int64(0)
	if w.hold.Epoch == w.known.Epoch {
		until = w.hold.Until
	}
	w.hold = api.Hold{Epoch: w.known.Epoch, Nonce: now, Until: until}
	return asksOf(w.c, w.index, w.known.Epoch, now)
}

// pair is a target under test, and one by the document's words.
type pair struct {
	t    *testing.T
	name string
	x    player
	w    player
}

func pairOf(t *testing.T, name string, c api.Config, index int) pair {
	t.Helper()
	return pair{t, name, fence.New(c, index), newWords(c, index, "")}
}

// happens has an event happen to both, which must come out alike, and returns what they sent.
func (p pair) happens(e event) []api.Msg {
	p.t.Helper()
	got, err := e.to(p.x)
	want, wantErr := e.to(p.w)
	if !same(got, want) || err != wantErr {
		p.t.Fatalf("%s: %v: %s, %v, want %s, %v", p.name, e, shorts(got), err, shorts(want), wantErr)
	}
	if fault := differ(p.x, p.w); fault != "" {
		p.t.Fatalf("%s: %v: %s", p.name, e, fault)
	}
	return got
}

// differ tells in which part two players differ.
func differ(x, w player) string {
	j, want := x.Journal(), w.Journal()
	switch {
	case !bytes.Equal(j.Synced(), want.Synced()) || !bytes.Equal(j.Tail(), want.Tail()) || j.Down() != want.Down():
		return fmt.Sprintf("synced %x, tail %x, down %v, want %x, %x, %v", j.Synced(), j.Tail(), j.Down(), want.Synced(), want.Tail(), want.Down())
	case !sameLog(x.Log(), w.Log()):
		return fmt.Sprintf("log %v, want %v", x.Log(), w.Log())
	case !sameIDs(x.Closed(), w.Closed()):
		return fmt.Sprintf("closed %v, want %v", x.Closed(), w.Closed())
	case x.Fence() != w.Fence():
		return fmt.Sprintf("fence %d, want %d", x.Fence(), w.Fence())
	case !plan.Same(x.Known(), w.Known()):
		return fmt.Sprintf("known %v, want %v", x.Known(), w.Known())
	}
	return ""
}
