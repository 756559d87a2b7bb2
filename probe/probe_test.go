package probe_test

import (
	"math"
	"math/rand"
	"slices"
	"testing"

	"locum/api"
	"locum/hyster"
	"locum/probe"
)

// Promise P10.1: B1 and B2, one by one.

// B1: an open probe is given up at Since + Wait exactly and behind, not one tick ahead; all but Open and State is left.
func TestTickGivesUp(t *testing.T) {
	for _, since := range []int64{0, 1, 5, 100, 1 << 32, maxTime - 200} {
		for _, wait := range []int64{0, 1, 2, 5, 150} {
			for _, nonce := range []int64{math.MinInt64, -1, 0, 7, math.MaxInt64} {
				p := api.Probe{Next: maxTime, Open: true, Nonce: nonce, Since: since, State: state(true, 1)}
				given := api.Probe{Next: maxTime, Nonce: nonce, Since: since, State: state(true, 2)}
				c := settings(10, wait, 2, 4)
				for _, early := range []int64{1, 2, 5, 100} {
					if since+wait >= early {
						checkTick(t, p, c, since+wait-early, 99, p, false)
					}
				}
				for _, late := range []int64{0, 1, 2, 5, 30} {
					checkTick(t, p, c, since+wait+late, 99, given, false)
				}
			}
		}
	}
}

// B1: an open probe at a time ahead of its Since waits on.
func TestTickBeforeSince(t *testing.T) {
	p := api.Probe{Next: 50, Open: true, Nonce: 3, Since: 40, State: state(true, 0)}
	for _, now := range []int64{math.MinInt64, -1, 0, 1, 39, 40, 44} {
		checkTick(t, p, settings(10, 5, 1, 1), now, 4, p, false)
	}
	checkTick(t, p, settings(10, 0, 1, 1), 39, 4, p, false)
	checkTick(t, p, settings(10, -5, 1, 1), 39, 4, p, false)
}

// B1: the State of one that is given up is what hyster.Next says with a bad answer, for any State, Rise and Fall, whether it is sent anew or not.
func TestTickStates(t *testing.T) {
	for _, h := range states() {
		for _, rise := range bounds() {
			for _, fall := range bounds() {
				c := settings(10, 5, rise, fall)
				bad := hyster.Next(h, false, rise, fall)
				p := api.Probe{Next: 18, Open: true, Nonce: 3, Since: 8, State: h}
				checkTick(t, p, c, 12, 4, p, false)
				checkTick(t, p, c, 13, 4, api.Probe{Next: 18, Nonce: 3, Since: 8, State: bad}, false)
				checkTick(t, p, c, 18, 4, api.Probe{Next: 28, Open: true, Nonce: 4, Since: 18, State: bad}, true)
			}
		}
	}
}

// B1, without hyster: bad answers count with Fall what is up, and nothing else.
func TestTickCounts(t *testing.T) {
	for _, l := range []struct {
		h, want    api.Hyster
		rise, fall int
	}{
		{state(true, 0), state(false, 0), 9, 1},
		{state(true, 0), state(true, 1), 1, 2},
		{state(true, 1), state(false, 0), 9, 2},
		{state(true, 1), state(true, 2), 1, 3},
		{state(false, 0), state(false, 0), 1, 1},
		{state(false, 1), state(false, 0), 2, 1},
	} {
		p := api.Probe{Next: 20, Open: true, Nonce: 3, Since: 10, State: l.h}
		checkTick(t, p, settings(10, 5, l.rise, l.fall), 15, 4, api.Probe{Next: 20, Nonce: 3, Since: 10, State: l.want}, false)
	}
}

// B1: one that is not open has its State left, however late it is.
func TestTickLeavesState(t *testing.T) {
	for _, h := range states() {
		for _, bound := range bounds() {
			c := settings(10, 5, bound, bound)
			p := api.Probe{Next: 100, Nonce: 3, Since: 20, State: h}
			for _, now := range []int64{0, 20, 24, 25, 26, 99} {
				checkTick(t, p, c, now, 4, p, false)
			}
			for _, now := range []int64{100, 101, 5000} {
				checkTick(t, p, c, now, 4, api.Probe{Next: now + 10, Open: true, Nonce: 4, Since: now, State: h}, true)
			}
		}
	}
}

// B1: at Next exactly and behind, not one tick ahead, a probe is sent.
func TestTickSends(t *testing.T) {
	for _, next := range []int64{0, 1, 2, 7, 100, 1 << 32, maxTime - 500} {
		for _, every := range []int64{0, 1, 3, 10, 200} {
			for _, nonce := range []int64{math.MinInt64, -1, 0, 1, 7, math.MaxInt64} {
				p := api.Probe{Next: next, Nonce: 5, Since: 3, State: state(true, 1)}
				c := settings(every, 5, 2, 3)
				for _, early := range []int64{1, 2, 5, 100} {
					if next >= early {
						checkTick(t, p, c, next-early, nonce, p, false)
					}
				}
				for _, late := range []int64{0, 1, 2, 5, 100} {
					now := next + late
					checkTick(t, p, c, now, nonce, api.Probe{Next: now + every, Open: true, Nonce: nonce, Since: now, State: state(true, 1)}, true)
				}
			}
		}
	}
}

// B1: the same nonce as before may be sent again.
func TestTickSendsSameNonce(t *testing.T) {
	p := api.Probe{Next: 10, Nonce: 7, Since: 0}
	checkTick(t, p, settings(10, 5, 2, 3), 10, 7, api.Probe{Next: 20, Open: true, Nonce: 7, Since: 10}, true)
}

// B1: a probe that is given up at this very Tick, and is due, is sent anew by it.
func TestTickSendsAnew(t *testing.T) {
	for _, l := range []struct{ every, wait, now int64 }{
		{10, 5, 10}, {10, 5, 11}, {10, 10, 10}, {10, 15, 15}, {10, 15, 16}, {10, 0, 10}, {0, 0, 0}, {0, 0, 1}, {0, 5, 5}, {1, 1, 1}, {3, 100, 100},
	} {
		c := settings(l.every, l.wait, 1, 1)
		p, sent := probe.Tick(api.Probe{State: state(true, 0)}, c, 0, 1)
		if !sent {
			t.Fatalf("Every %d, Wait %d: no first probe", l.every, l.wait)
		}
		checkTick(t, p, c, l.now, 2, api.Probe{Next: l.now + l.every, Open: true, Nonce: 2, Since: l.now}, true)
	}
}

// B1: one that is still open is not sent, however late it is; at its Wait it is.
func TestTickOfOpen(t *testing.T) {
	for _, next := range []int64{math.MinInt64, -1, 0, 1, 10, 99} {
		p := api.Probe{Next: next, Open: true, Nonce: 3, Since: 0, State: state(true, 0)}
		c := settings(10, 100, 1, 1)
		for _, now := range []int64{0, 1, 10, 11, 20, 98, 99} {
			checkTick(t, p, c, now, 4, p, false)
		}
		checkTick(t, p, c, 100, 4, api.Probe{Next: 110, Open: true, Nonce: 4, Since: 100}, true)
	}
	for _, now := range []int64{0, 1, maxTime / 2, maxTime - 1} {
		p := api.Probe{Next: 0, Open: true, Nonce: 3, Since: 0, State: state(true, 0)}
		for _, wait := range []int64{maxTime, maxTime + 1, math.MaxInt64} {
			checkTick(t, p, settings(1, wait, 1, 1), now, 4, p, false)
		}
	}
}

// B1: a time now that is negative counts as 0, one above MaxTime as MaxTime, and a sum above MaxTime becomes MaxTime.
func TestTickNowBeyond(t *testing.T) {
	for _, l := range []struct{ now, every, since, next int64 }{
		{-1, 10, 0, 10}, {-10, 10, 0, 10}, {-maxTime, 10, 0, 10}, {math.MinInt64, 10, 0, 10}, {math.MinInt64, math.MinInt64, 0, 0},
		{0, 0, 0, 0}, {0, -1, 0, 0}, {5, -1, 5, 5}, {5, -5, 5, 5}, {5, -6, 5, 5}, {5, math.MinInt64, 5, 5},
		{0, maxTime - 1, 0, maxTime - 1}, {0, maxTime, 0, maxTime}, {0, maxTime + 1, 0, maxTime}, {0, math.MaxInt64, 0, maxTime}, {-5, maxTime + 5, 0, maxTime},
		{1, maxTime - 1, 1, maxTime}, {1, maxTime, 1, maxTime}, {1, math.MaxInt64, 1, maxTime}, {2, maxTime - 1, 2, maxTime},
		{maxTime - 10, 9, maxTime - 10, maxTime - 1}, {maxTime - 10, 10, maxTime - 10, maxTime}, {maxTime - 10, 11, maxTime - 10, maxTime},
		{maxTime, 0, maxTime, maxTime}, {maxTime, 10, maxTime, maxTime}, {maxTime, -10, maxTime, maxTime}, {maxTime, maxTime, maxTime, maxTime},
		{maxTime + 1, 0, maxTime, maxTime}, {maxTime + 1, -1, maxTime, maxTime}, {maxTime + 1, 10, maxTime, maxTime},
		{math.MaxInt64, 0, maxTime, maxTime}, {math.MaxInt64, 1, maxTime, maxTime}, {math.MaxInt64, math.MaxInt64, maxTime, maxTime}, {math.MaxInt64, math.MinInt64, maxTime, maxTime},
	} {
		checkTick(t, api.Probe{}, settings(l.every, 5, 1, 1), l.now, 7, api.Probe{Next: l.next, Open: true, Nonce: 7, Since: l.since}, true)
	}
}

// B1: a Since, a Wait and a sum of both that are beyond the bounds.
func TestTickWaitBeyond(t *testing.T) {
	for _, l := range []struct {
		since, wait int64
		over        int64 // when it is given up
	}{
		{-1, 5, 5}, {-5, 5, 5}, {-100, 5, 5}, {math.MinInt64, 5, 5}, {math.MinInt64, maxTime, maxTime}, {-5, maxTime + 5, maxTime},
		{5, -1, 5}, {5, -5, 5}, {5, -100, 5}, {5, math.MinInt64, 5}, {maxTime, -1, maxTime}, {maxTime + 5, -5, maxTime},
		{1, maxTime - 1, maxTime}, {2, maxTime - 1, maxTime}, {1, maxTime, maxTime}, {1, maxTime + 1, maxTime}, {5, math.MaxInt64, maxTime},
		{maxTime - 5, 4, maxTime - 1}, {maxTime - 5, 5, maxTime}, {maxTime - 5, 6, maxTime}, {maxTime - 1, 1, maxTime},
		{maxTime, 0, maxTime}, {maxTime, 1, maxTime}, {maxTime + 1, 0, maxTime}, {maxTime + 1, 1, maxTime},
		{math.MaxInt64, 0, maxTime}, {math.MaxInt64, 1, maxTime}, {math.MaxInt64, math.MaxInt64, maxTime}, {math.MaxInt64, math.MinInt64, maxTime},
	} {
		p := api.Probe{Next: maxTime, Open: true, Nonce: 3, Since: l.since, State: state(true, 1)}
		c := settings(1, l.wait, 1, 3)
		checkTick(t, p, c, l.over-1, 4, p, false)
		if l.over < maxTime {
			checkTick(t, p, c, l.over, 4, api.Probe{Next: maxTime, Nonce: 3, Since: l.since, State: state(true, 2)}, false)
			continue
		}
		for _, now := range []int64{maxTime, maxTime + 1, math.MaxInt64} {
			checkTick(t, p, c, now, 4, api.Probe{Next: maxTime, Open: true, Nonce: 4, Since: maxTime, State: state(true, 2)}, true)
		}
	}
	for _, now := range []int64{math.MinInt64, -1, 0} {
		for _, since := range []int64{math.MinInt64, -1, 0} {
			for _, wait := range []int64{math.MinInt64, -1, 0} {
				p := api.Probe{Next: 1, Open: true, Nonce: 3, Since: since, State: state(true, 1)}
				checkTick(t, p, settings(1, wait, 1, 3), now, 4, api.Probe{Next: 1, Nonce: 3, Since: since, State: state(true, 2)}, false)
			}
		}
	}
}

// B1: a Next that is negative is due at 0, and so at any time; one above MaxTime at MaxTime.
func TestTickNextBeyond(t *testing.T) {
	c := settings(10, 5, 1, 1)
	for _, next := range []int64{math.MinInt64, -maxTime, -1, 0} {
		for _, now := range []int64{math.MinInt64, -maxTime, -2, -1, 0} {
			checkTick(t, api.Probe{Next: next}, c, now, 7, api.Probe{Next: 10, Open: true, Nonce: 7}, true)
		}
	}
	for _, now := range []int64{math.MinInt64, -1, 0} {
		checkTick(t, api.Probe{Next: 1}, c, now, 7, api.Probe{Next: 1}, false)
	}
	for _, next := range []int64{maxTime, maxTime + 1, math.MaxInt64} {
		p := api.Probe{Next: next, Since: 3}
		for _, now := range []int64{0, 3, maxTime - 1} {
			checkTick(t, p, c, now, 7, p, false)
		}
		for _, now := range []int64{maxTime, maxTime + 1, math.MaxInt64} {
			checkTick(t, p, c, now, 7, api.Probe{Next: maxTime, Open: true, Nonce: 7, Since: maxTime}, true)
		}
	}
}

// B1: a Next and a Since beyond the bounds are left as they were where nothing is sent.
func TestTickLeavesTheRest(t *testing.T) {
	for _, since := range edges() {
		for _, nonce := range edges() {
			p := api.Probe{Next: 50, Nonce: nonce, Since: since, State: state(true, 1)}
			checkTick(t, p, settings(10, 5, 1, 3), 49, 4, p, false)
			p = api.Probe{Next: 50, Open: true, Nonce: nonce, Since: since, State: state(true, 1)}
			if bounded(since) > 10 {
				checkTick(t, p, settings(10, maxTime, 1, 3), 49, 4, p, false)
			}
			if bounded(since) <= 10 {
				checkTick(t, p, settings(10, 5, 1, 3), 49, 4, api.Probe{Next: 50, Nonce: nonce, Since: since, State: state(true, 2)}, false)
			}
		}
	}
	for _, next := range edges() {
		if bounded(next) == maxTime {
			p := api.Probe{Next: next, Open: true, Nonce: 3, Since: 8, State: state(true, 1)}
			checkTick(t, p, settings(10, 5, 1, 3), 12, 4, p, false)
			checkTick(t, p, settings(10, 5, 1, 3), 13, 4, api.Probe{Next: next, Nonce: 3, Since: 8, State: state(true, 2)}, false)
		}
	}
}

// B1, for the edges of what gives up, and of what sends.
func TestTickOfEdges(t *testing.T) {
	for _, open := range both {
		for _, now := range edges() {
			for _, since := range edges() {
				for _, wait := range edges() {
					for _, next := range []int64{math.MinInt64, 0, 6, maxTime - 1, maxTime, math.MaxInt64} {
						p := api.Probe{Next: next, Open: open, Nonce: 3, Since: since, State: state(true, 1)}
						checkWords(t, p, settings(6, wait, 1, 3), now, 4)
					}
				}
			}
			for _, next := range edges() {
				for _, every := range edges() {
					for _, since := range []int64{math.MinInt64, 0, 6, maxTime - 6, maxTime, math.MaxInt64} {
						p := api.Probe{Next: next, Open: open, Nonce: 3, Since: since, State: state(true, 2)}
						checkWords(t, p, settings(every, 6, 1, 3), now, 4)
					}
				}
			}
		}
	}
}

// B1, for all small numbers, and for any.
func TestTickOfAny(t *testing.T) {
	for _, open := range both {
		for now := range int64(8) {
			for since := range int64(8) {
				for wait := range int64(6) {
					for next := range int64(8) {
						for every := range int64(4) {
							p := api.Probe{Next: next - 1, Open: open, Nonce: 3, Since: since - 1, State: state(true, 1)}
							checkWords(t, p, settings(every-1, wait-1, 1, 2), now-1, 4)
						}
					}
				}
			}
		}
	}
	r := rand.New(rand.NewSource(10))
	for range 300000 {
		checkWords(t, someProbe(r), someSettings(r), someTime(r), someTime(r))
	}
}

// B2: with the nonce of the open probe it is no longer Open, and its State is what hyster.Next says with a good answer; all else is as it was.
func TestAlive(t *testing.T) {
	for _, nonce := range edges() {
		for _, h := range states() {
			for _, rise := range bounds() {
				for _, fall := range bounds() {
					p := api.Probe{Next: 18, Open: true, Nonce: nonce, Since: 8, State: h}
					want := api.Probe{Next: 18, Nonce: nonce, Since: 8, State: hyster.Next(h, true, rise, fall)}
					checkAlive(t, p, settings(10, 5, rise, fall), nonce, want)
				}
			}
		}
	}
}

// B2, without hyster: good answers count with Rise what is down, and nothing else.
func TestAliveCounts(t *testing.T) {
	for _, l := range []struct {
		h, want    api.Hyster
		rise, fall int
	}{
		{state(false, 0), state(true, 0), 1, 9},
		{state(false, 0), state(false, 1), 2, 1},
		{state(false, 1), state(true, 0), 2, 9},
		{state(false, 1), state(false, 2), 3, 1},
		{state(true, 0), state(true, 0), 1, 1},
		{state(true, 1), state(true, 0), 1, 2},
	} {
		p := api.Probe{Next: 20, Open: true, Nonce: 3, Since: 10, State: l.h}
		checkAlive(t, p, settings(10, 5, l.rise, l.fall), 3, api.Probe{Next: 20, Nonce: 3, Since: 10, State: l.want})
	}
}

// B2: with another nonce, or of a probe that is not open, the very probe comes back.
func TestAliveOfOther(t *testing.T) {
	c := settings(10, 5, 1, 1)
	for _, next := range edges() {
		for _, since := range edges() {
			for _, h := range states() {
				for _, nonce := range []int64{math.MinInt64, -1, 0, 1, 7, math.MaxInt64} {
					closed := api.Probe{Next: next, Nonce: nonce, Since: since, State: h}
					open := api.Probe{Next: next, Open: true, Nonce: nonce, Since: since, State: h}
					checkAlive(t, closed, c, nonce, closed)
					for _, other := range []int64{nonce + 1, nonce - 1, nonce ^ 1<<32, nonce ^ math.MinInt64} {
						checkAlive(t, closed, c, other, closed)
						checkAlive(t, open, c, other, open)
					}
				}
			}
		}
	}
	checkAlive(t, api.Probe{}, c, 0, api.Probe{})
}

// B2: no time is asked for: Since, Next, Every and Wait are left out of it.
func TestAliveWithoutTime(t *testing.T) {
	for _, since := range edges() {
		for _, next := range edges() {
			for _, n := range edges() {
				p := api.Probe{Next: next, Open: true, Nonce: 3, Since: since}
				checkAlive(t, p, settings(n, n, 1, 1), 3, api.Probe{Next: next, Nonce: 3, Since: since, State: state(true, 0)})
			}
		}
	}
}

// The examples of the chapter.
func TestExamples(t *testing.T) {
	c := settings(10, 5, 1, 1)
	first, sent := probe.Tick(api.Probe{}, c, 0, 7)
	if want := (api.Probe{Next: 10, Open: true, Nonce: 7}); first != want || !sent {
		t.Fatalf("Tick at 0: %v, %v, want %v", first, sent, want)
	}
	checkAlive(t, first, c, 7, api.Probe{Next: 10, Nonce: 7, State: state(true, 0)})
	checkTick(t, first, c, 5, 8, api.Probe{Next: 10, Nonce: 7}, false)
	first.State.Up = true
	checkTick(t, first, c, 5, 8, api.Probe{Next: 10, Nonce: 7}, false)
}

// What was passed stays as it was, with its spare capacity; nothing else of Config matters, and the same call has the same result.
func TestNothingElse(t *testing.T) {
	for seed := range int64(3000) {
		r := rand.New(rand.NewSource(seed))
		p, plain, now, nonce := someProbe(r), someSettings(r), someTime(r), r.Int63n(4)
		c := noisy(plain)
		spare := slices.Clone(c.Tiers)
		c.Tiers = c.Tiers[:2]
		before := c
		before.Tiers = slices.Clone(c.Tiers)
		want, sent := probe.Tick(p, plain, now, nonce)
		alive := probe.Alive(p, plain, nonce)
		probe.Tick(someProbe(r), someSettings(r), someTime(r), 1)
		probe.Alive(someProbe(r), someSettings(r), 1)
		checkTick(t, p, c, now, nonce, want, sent)
		checkAlive(t, p, c, nonce, alive)
		if !sameConfig(c, before, spare) {
			t.Errorf("seed %d: %v was changed into %v", seed, before, c)
		}
	}
}
