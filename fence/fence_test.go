package fence_test

import (
	"fmt"
	"math"
	"slices"
	"testing"

	"locum/api"
	"locum/fence"
	"locum/policy"
)

// Promise P18.1: New, Flip, Journal, Log, Closed, Fence, Known and Restart.

// spoilt are configs that are not valid, each for one reason.
func spoilt() []api.Config {
	l := []api.Config{{}}
	for _, change := range []func(c *api.Config){
		func(c *api.Config) { c.F = -1 },
		func(c *api.Config) { c.F = 4 },
		func(c *api.Config) { c.Deciders = 0 },
		func(c *api.Config) { c.Targets = 2 },
		func(c *api.Config) { c.Targets = 0; c.Tiers = nil },
		func(c *api.Config) { c.Targets = 17; c.Tiers = make([]int, 17) },
		func(c *api.Config) { c.Tiers = nil },
		func(c *api.Config) { c.Tiers = []int{1, 16, 0} },
		func(c *api.Config) { c.L = 0 },
		func(c *api.Config) { c.L = 1<<20 + 1 },
		func(c *api.Config) { c.M = -1 },
		func(c *api.Config) { c.B = 9 },
		func(c *api.Config) { c.Cap = 0 },
		func(c *api.Config) { c.Cap = 1001 },
		func(c *api.Config) { c.Span = 0 },
		func(c *api.Config) { c.Span = 1<<20 + 1 },
		func(c *api.Config) { c.Reuse = c.Suppress },
		func(c *api.Config) { c.Tries = 21 },
	} {
		l = append(l, with(usual(), change))
	}
	return l
}

// F1: New refuses a config that is not valid, and an index that there is not.
func TestNewRefuses(t *testing.T) {
	for _, c := range spoilt() {
		if policy.Right(c) {
			t.Fatalf("%+v is valid", c)
		}
		for _, index := range []int{-1, 0, self, c.Targets - 1, c.Targets} {
			if fence.New(c, index) != nil {
				t.Errorf("New(%+v, %d) is not nil", c, index)
			}
		}
	}
	for _, c := range configs() {
		for _, index := range []int{-1, -2, -255, math.MinInt, c.Targets, c.Targets + 1, 255, 1 << 32, math.MaxInt} {
			if fence.New(c, index) != nil {
				t.Errorf("New(%+v, %d) is not nil", c, index)
			}
		}
		for index := range c.Targets {
			if fence.New(c, index) == nil {
				t.Errorf("New(%+v, %d) is nil", c, index)
			}
		}
	}
}

// F1: a new target has nothing, and is well; its answers are from its node.
func TestNewIsInitial(t *testing.T) {
	for _, c := range configs() {
		for index := range c.Targets {
			s := scene{t, fmt.Sprintf("new, index %d", index), fence.New(c, index)}
			s.has(0, nil, nil)
			s.knows(policy.Zero(c))
			s.stored()
			if s.Journal().Down() {
				t.Errorf("%s: down", s.name)
			}
			s.ticks(0)
			from := 2*c.F + 1 + c.Deciders + index
			s.says(probe(7), 0, with(alive(probe(7)), func(m *api.Msg) { m.From = from }))
			s.says(write(1, 0), 0, with(refused(write(1, 0)), func(m *api.Msg) { m.From = from }))
			s.says(write(2, 1), 0)
			s.has(0, nil, ids(write(1, 0)))
		}
	}
}

// F1: the index tells which plans name the target, and from whom it asks for a lease.
func TestIndex(t *testing.T) {
	for _, c := range configs() {
		for index := range c.Targets {
			for other := range c.Targets {
				s := scene{t, fmt.Sprintf("index %d of %d, plan for %d", index, c.Targets, other), fence.New(c, index)}
				p := api.Plan{Epoch: 3, Target: other, Prev: -1, Spill: -1, Percent: 100, Pen: make([]int, c.Targets)}
				s.learns(p)
				if index == other {
					s.ticks(8, asksOf(c, index, 3, 8)...)
				} else {
					s.ticks(8)
				}
			}
		}
	}
}

// F1: without a fuse, a hundred records are remembered.
func TestNewHasNoFuse(t *testing.T) {
	s := play(t, "new", usual())
	for n := range int64(100) {
		s.says(seal(n+1), 0, sealed(seal(n+1)))
		s.says(write(n, 0), 0, refused(write(n, 0)))
	}
}

// F1: the hold is zero at first, so that a lease for epoch 0 can be granted; it permits nothing, as no known plan of that epoch names anybody.
func TestHoldAtFirst(t *testing.T) {
	s := play(t, "hold", usual())
	for from := range 3 {
		s.says(grant(from, 0, 0), 1)
	}
	s.says(write(1, 0), 1, refused(write(1, 0)))
	s.learns(planOf(1))
	s.says(write(2, 1), 1)
	s.ticks(1, asks(1, 1)...)
}

// F1: the window begins at 0 at first, with no writes.
func TestWindowAtFirst(t *testing.T) {
	s := ready(t, "window", usual(), 1, 0)
	s.says(write(1, 1), 9, wrote(write(1, 1), 1))
	s.says(write(2, 1), 9, wrote(write(2, 1), 1))
	s.says(write(3, 1), 9, refused(write(3, 1)))
	s.says(write(4, 1), 10, wrote(write(4, 1), 1))
}

// F1: Flip sets whether it is well, which matters to probes alone.
func TestFlip(t *testing.T) {
	for _, well := range []bool{true, false} {
		s := busy(t, fmt.Sprintf("well %v", well))
		for _, before := range [][]bool{{}, {true}, {false}, {false, true}, {true, false}, {false, false}} {
			for _, x := range before {
				s.Flip(x)
			}
			s.Flip(well)
			s.Flip(well)
			if well {
				s.says(probe(8), 115, alive(probe(8)))
			} else {
				s.says(probe(8), 115)
			}
		}
		s.isBusy()
	}
	for _, row := range busyRows() {
		s, other := busy(t, "not well"), busy(t, "well")
		s.Flip(false)
		s.isBusy()
		if row[0].m.Kind != api.MsgProbe {
			goesLike(t, s, other, row)
		}
	}
}

// goesLike holds that a row of events comes out alike for two targets.
func goesLike(t *testing.T, s, other scene, row []event) {
	t.Helper()
	for _, e := range row {
		got, _ := e.to(s)
		want, _ := e.to(other)
		if !same(got, want) {
			t.Errorf("%s: %v: %s, want %s", s.name, e, shorts(got), shorts(want))
		}
		if fault := differ(s, other); fault != "" {
			t.Errorf("%s: %v: %s", s.name, e, fault)
		}
	}
}

// F1: two targets share nothing.
func TestTargetsAreApart(t *testing.T) {
	one, other := play(t, "one", usual()), play(t, "other", usual())
	one.learns(planOf(2))
	one.Flip(false)
	one.says(seal(2), 0, sealed(seal(2)))
	one.says(write(1, 1), 0, refused(write(1, 1)))
	other.hasNothing()
	other.stored()
	other.says(probe(1), 0, alive(probe(1)))
}

// F1: the log and the closed IDs are in the order in which they came, and nothing else is in them.
func TestLogAndClosed(t *testing.T) {
	s := ready(t, "order", lasting(20), 3, 50)
	for _, n := range []int64{5, 2, 9, 1, 7} {
		s.says(write(n, 3), 51, wrote(write(n, 3), 3))
		s.says(write(-n, 2), 51, refused(write(-n, 2)))
	}
	s.has(3, entries(write(5, 3), write(2, 3), write(9, 3), write(1, 3), write(7, 3)),
		ids(write(-5, 2), write(-2, 2), write(-9, 2), write(-1, 2), write(-7, 2)))
}

// F1: the fence is the greatest epoch that was sealed or written.
func TestFence(t *testing.T) {
	s := ready(t, "fence", lasting(20), 3, 50)
	s.has(0, nil, nil)
	s.says(seal(2), 51, sealed(seal(2)))
	s.has(2, nil, nil)
	s.says(write(1, 3), 51, wrote(write(1, 3), 3))
	s.has(3, entries(write(1, 3)), nil)
	s.says(seal(1), 51, sealed(seal(1)))
	s.says(seal(3), 51, sealed(seal(3)))
	s.has(3, entries(write(1, 3)), nil)
	s.says(seal(9), 51, sealed(seal(9)))
	s.has(9, entries(write(1, 3)), nil)
	s.stored(fenceRecord(2), writeRecord(write(1, 3)), fenceRecord(9))
}

// F1: the journal that is returned is the one that is written to, and restored, before a Restart and after it.
func TestJournal(t *testing.T) {
	s := play(t, "journal", usual())
	j := s.Journal()
	s.says(seal(2), 0, sealed(seal(2)))
	s.stored(fenceRecord(2))
	s.restarts(1)
	s.put(fenceRecord(5))
	s.has(2, nil, nil)
	s.restarts(2)
	s.has(5, nil, nil)
	s.says(seal(6), 0, sealed(seal(6)))
	s.stored(fenceRecord(2), fenceRecord(5), fenceRecord(6))
	if s.Journal() != j {
		t.Error("it is another one")
	}
	s.Journal().Crash(0)
	s.says(seal(6), 0)
}

// Rule P3: the config's list is neither changed nor kept.
func TestConfigIsNotKept(t *testing.T) {
	tiers := []int{1, 0, 2, 9}
	c := usual()
	c.Tiers = tiers[:3]
	s := play(t, "config", c)
	s.learns(planOf(1))
	s.restarts(5)
	if !slices.Equal(tiers, []int{1, 0, 2, 9}) {
		t.Errorf("tiers are %v", tiers)
	}
	s = play(t, "config", c)
	tiers[0] = 16 // there is no zero plan of such a config
	s.restarts(0)
	s.hasNothing()
}

// Rule P3: what Log and Closed return is new memory.
func TestListsAreApart(t *testing.T) {
	s := busy(t, "apart")
	log, closed := s.Log(), s.Closed()
	_, _ = append(log, api.Entry{}), append(closed, nil)
	for i := range log {
		_, _ = append(log[i].ID, 99), append(log[i].Payload, 'x')
		log[i].ID[0], log[i].Payload[0], log[i].Epoch = 99, 'x', 99
	}
	for i := range closed {
		_ = append(closed[i], 99)
		closed[i][0] = 99
	}
	s.isBusy()
	s.says(write(1, 9), 115, wrote(write(1, 9), 4))
	s.says(write(2, 9), 115, refused(write(2, 9)))
}

// F2: the fence, the log and what is closed are as they were; all else is as it was at first, but whether it is well.
func TestRestart(t *testing.T) {
	for _, crash := range []bool{false, true} {
		for _, well := range []bool{false, true} {
			for _, now := range []int64{0, 115, 500, maxTime} {
				again := func() scene {
					s := busy(t, fmt.Sprintf("crash %v, well %v, restarted at %d", crash, well, now))
					s.Flip(well)
					if crash {
						s.Journal().Crash(math.MaxInt)
					}
					s.restarts(now)
					s.hasBusyParts()
					s.knows(policy.Zero(usual()))
					s.stored(busyRecords()...)
					return s
				}
				checkRestarted(again, well, now)
			}
		}
	}
}

// checkRestarted holds what a busy target that was restarted does.
func checkRestarted(again func() scene, well bool, now int64) {
	s := again()
	if well {
		s.says(probe(5), now, alive(probe(5)))
	} else {
		s.says(probe(5), now)
	}
	s.says(write(3, 9), now, wrote(write(3, 9), 3))
	s.says(write(1, 9), now, wrote(write(1, 9), 4))
	s.says(write(2, 9), now, refused(write(2, 9)))
	s.says(write(7, 4), now)
	s.ticks(now)
	// The lease is gone, and what was asked for, too.
	s.learns(planOf(4))
	s.says(write(7, 4), 115)
	for from := range 3 {
		s.says(grant(from, 4, 114), 115)
	}
	s.says(write(7, 4), 115)
	s.ticks(115, asks(4, 115)...)
	// The fence is there.
	s = again()
	s.learns(planOf(3))
	s.leases(3, 100)
	s.says(write(7, 3), 100, refused(write(7, 3)))
	// A plan that is known no more can be learnt again, and one before it.
	s.learns(planOf(4))
	s = again()
	s.learns(planOf(2))
}

// F2: the window begins at the time of the Restart, with no writes, be that any number.
func TestRestartWindow(t *testing.T) {
	for _, at := range []int64{1000, 1, 0, 5000} {
		// It is over Span behind that: not ahead of it, and not later.
		for late := range int64(9) {
			s := restored(t, fmt.Sprintf("restarted at %d, written at +%d", at, late), windowed(2, 10), at)
			s.learns(planOf(1))
			s.leases(1, at)
			s.says(write(1, 1), at+late, wrote(write(1, 1), 1))
			s.says(write(2, 1), at+9, wrote(write(2, 1), 1))
			s.says(write(3, 1), at+9, refused(write(3, 1)))
			s.says(write(4, 1), at+10, wrote(write(4, 1), 1))
			s.says(write(5, 1), at+19, wrote(write(5, 1), 1))
			s.says(write(6, 1), at+19, refused(write(6, 1)))
			s.says(write(7, 1), at+20, wrote(write(7, 1), 1))
		}
	}
	for _, at := range []int64{math.MinInt64, math.MinInt64 + 1, -1 << 40, -11, -10} {
		s := ready(t, fmt.Sprintf("restarted at %d", at), windowed(2, 10), 1, 0)
		s.restarts(at)
		s.learns(planOf(1))
		s.leases(1, 0)
		s.says(write(1, 1), 0, wrote(write(1, 1), 1))
		s.says(write(2, 1), 9, wrote(write(2, 1), 1))
		s.says(write(3, 1), 9, refused(write(3, 1)))
		s.says(write(4, 1), 10, wrote(write(4, 1), 1))
	}
	for _, at := range []int64{maxTime, maxTime + 1, math.MaxInt64 - 10, math.MaxInt64} {
		s := restored(t, fmt.Sprintf("restarted at %d", at), windowed(2, 10), at)
		s.learns(planOf(1))
		s.leases(1, maxTime-50)
		s.says(write(1, 1), maxTime-50, wrote(write(1, 1), 1))
		s.says(write(2, 1), maxTime-20, wrote(write(2, 1), 1))
		s.says(write(3, 1), maxTime, refused(write(3, 1)))
	}
}

// F2: writes of the window before the Restart do not count, nor do those that are restored.
func TestRestartEmptiesTheWindow(t *testing.T) {
	s := ready(t, "emptied", windowed(3, 1000), 1, 5)
	for n := range int64(3) {
		s.says(write(n, 1), 6, wrote(write(n, 1), 1))
	}
	s.says(write(10, 1), 6, refused(write(10, 1)))
	s.restarts(7)
	s.learns(planOf(1))
	s.leases(1, 7)
	for n := int64(20); n < 23; n++ {
		s.says(write(n, 1), 7, wrote(write(n, 1), 1))
	}
	s.says(write(30, 1), 7, refused(write(30, 1)))
}

// F2: what is not synced, and what a crash keeps of it: the records that are whole.
func TestRestartBehindCrash(t *testing.T) {
	first := []api.Msg{fenceRecord(2), writeRecord(write(1, 3))}
	tail := []api.Msg{closeRecord(write(2, 0)), fenceRecord(5), writeRecord(write(3, 6)), closeRecord(write(4, 0)), fenceRecord(9)}
	for keep := -1; keep <= len(framed(tail...))+1; keep++ {
		whole := 0
		for whole < len(tail) && len(framed(tail[:whole+1]...)) <= keep {
			whole++
		}
		s := play(t, fmt.Sprintf("%d bytes, %d records kept", keep, whole), usual())
		s.put(first...)
		for _, r := range tail {
			s.Journal().Append(byte(r.Kind), bodyOf(r))
		}
		s.Journal().Crash(keep)
		s.hasNothing()
		s.restarts(50)
		s.stored(slices.Concat(first, tail[:whole])...)
		one, both := entries(write(1, 3)), entries(write(1, 3), write(3, 6))
		switch whole {
		case 0:
			s.has(3, one, nil)
		case 1:
			s.has(3, one, ids(write(2, 0)))
		case 2:
			s.has(5, one, ids(write(2, 0)))
		case 3:
			s.has(6, both, ids(write(2, 0)))
		case 4:
			s.has(6, both, ids(write(2, 0), write(4, 0)))
		default:
			s.has(9, both, ids(write(2, 0), write(4, 0)))
		}
	}
}

// F2: a journal that can't be opened: its error, and nothing is left but what a new target has, and whether it is well, till it can be.
func TestRestartFails(t *testing.T) {
	for _, well := range []bool{false, true} {
		failed := func() scene {
			s := busy(t, fmt.Sprintf("failed, well %v", well))
			s.Flip(well)
			s.Journal().Append(byte(api.RecFence), bodyOf(fenceRecord(9)))
			s.Journal().Crash(3)
			s.Journal().Fuse(0)
			if err := s.Restart(13); err != api.ErrDown {
				t.Errorf("%s: Restart: %v", s.name, err)
			}
			if !s.Journal().Down() {
				t.Errorf("%s: it is up", s.name)
			}
			s.hasNothing()
			return s
		}
		for _, row := range busyRows() {
			s := failed()
			for _, e := range row {
				if l, _ := e.to(s); len(l) != 0 {
					t.Errorf("%s: %v: %s", s.name, e, shorts(l))
				}
			}
			s.hasNothing()
		}
		s := failed()
		s.restarts(14)
		s.hasBusyParts()
		s.stored(busyRecords()...)
		checkRestarted(func() scene { s := failed(); s.restarts(14); return s }, well, 14)
	}
}

// F2: records that are no messages are passed over, and those of other kinds change nothing.
func TestRestartPassesOver(t *testing.T) {
	body := bodyOf(writeRecord(write(9, 9)))
	s := play(t, "passed over", usual())
	s.lay(byte(api.MsgWrite), nil)
	s.put(fenceRecord(2))
	s.lay(byte(api.MsgWrite), body[:len(body)-1])
	s.lay(byte(api.RecClose), append(slices.Clone(body), 0))
	s.lay(byte(api.RecFence), body[1:])
	for _, kind := range []byte{0, byte(api.MaxKind) + 1, 255} {
		s.lay(kind, body)
	}
	s.put(closeRecord(write(4, 0)))
	s.lay(byte(api.RecFence), []byte("no message"))
	for kind := api.MsgProbe; kind <= api.MaxKind; kind++ {
		if kind != api.MsgWrite && kind != api.RecClose && kind != api.RecFence {
			s.lay(byte(kind), body)
			s.lay(byte(kind), bodyOf(decision(planOf(8))))
			s.lay(byte(kind), bodyOf(grant(0, 8, 0)))
		}
	}
	s.put(writeRecord(write(5, 3)))
	s.restarts(10)
	s.has(3, entries(write(5, 3)), ids(write(4, 0)))
	s.knows(policy.Zero(usual()))
	s.says(write(9, 0), 10, refused(write(9, 0)))
	s.says(probe(1), 10, alive(probe(1)))
}

// F2: of a record only the fields that it has count.
func TestRestartReadsItsFields(t *testing.T) {
	noise := func(m *api.Msg) {
		m.From, m.To, m.Ballot, m.Accepted, m.Nonce, m.Time, m.Up, m.Code = 7, 8, 4, 5, 6, 7, 3, 9
		m.HasPlan, m.Plan, m.Session = true, planOf(50), []byte("s")
	}
	s := restored(t, "fields", usual(), 10,
		with(fenceRecord(2), noise), with(writeRecord(write(1, 3)), noise), with(closeRecord(write(2, 0)), noise),
		with(closeRecord(write(3, 0)), func(m *api.Msg) { m.Epoch, m.Payload = 60, []byte("p") }),
		with(fenceRecord(4), func(m *api.Msg) { m.ID, m.Payload = id(70), []byte("p") }))
	s.has(4, entries(write(1, 3)), ids(write(2, 0), write(3, 0)))
	s.knows(policy.Zero(usual()))
}

// Types: a fence and a write raise the fence, and nothing makes it less; each write is at the end of the log.
func TestReplay(t *testing.T) {
	epochs := []int64{math.MinInt64, -1, 0, 1, 5, 6, 7, math.MaxInt64}
	for _, before := range epochs {
		for _, epoch := range epochs {
			want := max(before, epoch, 0)
			name := fmt.Sprintf("%d, then %d", before, epoch)
			restored(t, name, usual(), 0, fenceRecord(before), fenceRecord(epoch)).has(want, nil, nil)
			restored(t, name, usual(), 0, fenceRecord(before), writeRecord(write(1, epoch))).has(want, entries(write(1, epoch)), nil)
			restored(t, name, usual(), 0, writeRecord(write(1, before)), fenceRecord(epoch)).has(want, entries(write(1, before)), nil)
			restored(t, name, usual(), 0, writeRecord(write(1, before)), writeRecord(write(2, epoch))).has(want, entries(write(1, before), write(2, epoch)), nil)
			restored(t, name, usual(), 0, closeRecord(write(1, before)), closeRecord(write(2, epoch))).has(0, nil, ids(write(1, 0), write(2, 0)))
		}
	}
}

// Types: what is restored decides what is answered; an ID that was both written and closed, as no target does it, is written.
func TestReplayIsKnown(t *testing.T) {
	a, b := write(1, 3), write(2, 0)
	s := restored(t, "known", usual(), 0, writeRecord(a), closeRecord(b), closeRecord(a))
	s.says(write(1, 7), 0, wrote(a, 3))
	s.says(write(2, 7), 0, refused(write(2, 7)))
	s = restored(t, "known", usual(), 0, closeRecord(a), writeRecord(a))
	s.says(write(1, 7), 0, wrote(a, 3))
}

// F2: Restart again and again restores the same.
func TestRestartAgain(t *testing.T) {
	s := busy(t, "again")
	for now := int64(20); now < 25; now++ {
		s.restarts(now)
		s.hasBusyParts()
		s.stored(busyRecords()...)
		s.learns(planOf(7))
	}
	s.leases(7, 30)
	s.says(write(7, 7), 31, wrote(write(7, 7), 7))
	s.restarts(50)
	s.has(7, entries(write(3, 3), write(1, 4), write(7, 7)), ids(write(2, 0)))
}
