package fence_test

import (
	"fmt"
	"math"
	"testing"

	"locum/api"
	"locum/fence"
)

// Promise P18.1: Tick.

// F4: a time that there can't be, and those that there can.
func TestTickTimes(t *testing.T) {
	for _, now := range []int64{-1, -2, math.MinInt64, maxTime + 1, maxTime + 2, math.MaxInt64} {
		untouched(t, "time", ticks(now))
		s := play(t, "first", usual())
		s.learns(planOf(4))
		s.ticks(now)
		s.ticks(7, asks(4, 7)...)
	}
	for _, now := range []int64{0, 1, 2, maxTime - 1, maxTime} {
		s := play(t, "first", usual())
		s.learns(planOf(4))
		s.ticks(now, asks(4, now)...)
	}
}

// F4: a journal that is down, be it by a crash or by its fuse.
func TestTickDown(t *testing.T) {
	for _, row := range busyRows() {
		for _, now := range []int64{115, 124, 500} {
			for _, down := range []func(s scene){
				func(s scene) { s.Journal().Crash(0) },
				func(s scene) { s.Journal().Fuse(0); s.Journal().Effect() },
			} {
				s := busy(t, "down")
				down(s)
				s.ticks(now)
				s.isBusy()
				s.Journal().Open()
				goesLike(t, s, busy(t, "up"), row)
			}
		}
	}
}

// F4: a Tick performs no effect, and remembers nothing.
func TestTickHasNoEffect(t *testing.T) {
	s := busy(t, "fuse")
	s.Journal().Fuse(0)
	s.ticks(124, asks(4, 124)...)
	if s.Journal().Down() {
		t.Error("it went down")
	}
	s.isBusy()
}

// F4: plans that name its index, and plans that do not.
func TestTickNames(t *testing.T) {
	for _, n := range namers() {
		for _, now := range []int64{0, 9, 1000, maxTime} {
			s := play(t, n.name, usual())
			s.learns(n.plan(4))
			if n.names {
				s.ticks(now, asks(4, now)...)
			} else {
				s.ticks(now)
			}
			s.knows(n.plan(4))
		}
	}
	// Without a plan, and behind a Restart, nothing is asked for.
	for _, now := range []int64{0, 9, maxTime} {
		play(t, "no plan", usual()).ticks(now)
		s := busy(t, "restarted")
		s.restarts(now)
		s.ticks(now)
	}
	// A later plan does not name it any more: the lease is not asked for again.
	s := busy(t, "later")
	s.learns(elsewhere(5))
	s.ticks(500)
}

// F4: the hold of the known plan's Epoch: nothing ahead of the greater one of L / 2 and 1, with L odd, even and 1.
func TestTickAgain(t *testing.T) {
	for _, l := range []int64{1, 2, 3, 4, 5, 19, 20, 21, 1<<20 - 1, 1 << 20} {
		pause := l / 2
		if l == 1 {
			pause = 1
		}
		for _, first := range []int64{0, 1, 1000, maxTime - 2*pause - 1} {
			for _, grants := range []int{0, 1, 2, 3} {
				again := func() scene {
					s := play(t, fmt.Sprintf("L %d, first at %d, %d grants", l, first, grants), lasting(l))
					s.learns(planOf(4))
					s.ticks(first, asks(4, first)...)
					for from := range grants {
						s.says(grant(from, 4, first), first)
					}
					return s
				}
				for _, now := range []int64{0, first - 1, first, first + pause - 1} {
					again().ticks(now)
				}
				for _, now := range []int64{first + pause, first + pause + 1, maxTime} {
					again().ticks(now, asks(4, now)...)
				}
				// It counts from the last request on.
				s := again()
				s.ticks(first+pause, asks(4, first+pause)...)
				s.ticks(first + 2*pause - 1)
				s.ticks(first+2*pause, asks(4, first+2*pause)...)
			}
		}
	}
}

// F4: there is no valid config with an L of 0 or less, so that no target has one.
func TestTickWithoutL(t *testing.T) {
	for _, l := range []int64{0, -1, -2} {
		if fence.New(lasting(l), self) != nil {
			t.Errorf("there is a target with an L of %d", l)
		}
	}
}

// F4: a hold of another epoch than that of the known plan: it is asked at once, whenever it is, and then not.
func TestTickNextEpoch(t *testing.T) {
	for _, epoch := range []int64{5, 6, 1 << 40, math.MaxInt64} {
		for _, now := range []int64{0, 113, 114, 115, 123, 124, 1000, maxTime} {
			s := busy(t, fmt.Sprintf("epoch %d", epoch))
			s.learns(planOf(epoch))
			s.ticks(now, asks(epoch, now)...)
			s.ticks(now)
			s.hasBusyParts()
			s.knows(planOf(epoch))
			s.stored(busyRecords()...)
		}
	}
}

// F4: one MsgAsk goes to each acceptor, from 0 on, for each number of them, from the node of each index.
func TestTickAsksEach(t *testing.T) {
	for f := range 4 {
		for deciders := 1; deciders <= 4; deciders++ {
			for index := range 3 {
				c := with(usual(), func(c *api.Config) { c.F, c.Deciders = f, deciders })
				s := scene{t, fmt.Sprintf("F %d, %d deciders, index %d", f, deciders, index), fence.New(c, index)}
				s.learns(with(planOf(4), func(p *api.Plan) { p.Target = index }))
				l := s.Tick(33)
				if len(l) != 2*f+1 || !same(l, asksOf(c, index, 4, 33)) {
					t.Errorf("%s: %s", s.name, shorts(l))
				}
			}
		}
	}
}

// F4: the hold becomes what lease.Ask makes of it: the grants of the request before count no more, and the lease stays till its end, unless it is for another epoch.
func TestTickHold(t *testing.T) {
	// At 114 acceptor 0 has granted; at 124 nobody has.
	s := busy(t, "asked again")
	s.ticks(124, asks(4, 124)...)
	s.says(grant(2, 4, 114), 124)
	s.says(grant(2, 4, 124), 124)
	s.says(write(7, 4), 124)
	s.says(write(7, 4), 123, wrote(write(7, 4), 4))
	s.says(grant(0, 4, 124), 124)
	s.says(write(8, 4), 143, wrote(write(8, 4), 4))
	s.says(write(9, 4), 144)
	// Under another epoch there is none; the one before is not live any more either, be it asked for anew.
	s = busy(t, "next epoch")
	s.learns(planOf(5))
	s.ticks(115, asks(5, 115)...)
	s.says(write(7, 5), 115)
	s.says(grant(0, 4, 115), 115)
	s.says(grant(2, 4, 114), 115)
	s.says(write(7, 5), 115)
	s.says(grant(0, 5, 115), 115)
	s.says(grant(1, 5, 115), 115)
	s.says(write(7, 5), 134, wrote(write(7, 5), 5))
	s.says(write(8, 5), 135)
}

// F4: whether it is well, its fence, and what it wrote have no say.
func TestTickAnyway(t *testing.T) {
	for _, change := range []func(s scene){
		func(s scene) { s.Flip(false) },
		func(s scene) { s.says(seal(9), busyAt, sealed(seal(9))) },
		func(s scene) { s.says(write(7, 4), busyAt, wrote(write(7, 4), 4)) },
		func(s scene) { s.says(write(7, 3), busyAt, refused(write(7, 3))) },
	} {
		s := busy(t, "anyway")
		change(s)
		s.ticks(123)
		s.ticks(124, asks(4, 124)...)
		s.ticks(125)
	}
}

// Rule P3: the lists of Ticks are not each other's memory.
func TestTicksAreApart(t *testing.T) {
	s := busy(t, "apart")
	first := s.Tick(124)
	_ = append(first, api.Msg{})
	for i := range first {
		first[i].Epoch, first[i].Nonce = 99, 99
	}
	s.ticks(134, asks(4, 134)...)
}
