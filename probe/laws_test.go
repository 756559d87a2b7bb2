package probe_test

import (
	"fmt"
	"math"
	"math/rand"
	"testing"

	"locum/api"
	"locum/hyster"
	"locum/probe"
)

// Promises P10.2 and P10.3.

// P10.2: the same answer twice counts once, for any probe.
func TestAnswerTwice(t *testing.T) {
	counted := 0
	for seed := range int64(20000) {
		r := rand.New(rand.NewSource(seed))
		p, c := someProbe(r), someSettings(r)
		once := probe.Alive(p, c, p.Nonce)
		if once.Open {
			t.Fatalf("seed %d: Alive(%v) = %v", seed, p, once)
		}
		for nonce := int64(-1); nonce < 5; nonce++ {
			checkAlive(t, once, c, nonce, once)
		}
		if p.Open {
			counted++
		}
	}
	if counted < 5000 {
		t.Errorf("only %d answers counted", counted)
	}
}

// P10.2: an answer to an older probe does not count, be that one answered, given up, or given up at the very Tick that sent another one.
func TestAnswerToOlder(t *testing.T) {
	c := settings(10, 5, 1, 1)
	first, _ := probe.Tick(api.Probe{}, c, 0, 7)
	given, _ := probe.Tick(first, c, 5, 8)
	for _, ended := range []api.Probe{probe.Alive(first, c, 7), given, first} {
		second, sent := probe.Tick(ended, c, 10, 9)
		if !sent || !second.Open {
			t.Fatalf("Tick(%v) at 10 = %v, %v", ended, second, sent)
		}
		checkAlive(t, second, c, 7, second)
		checkAlive(t, second, c, 8, second)
		checkAlive(t, second, c, 9, api.Probe{Next: 20, Nonce: 9, Since: 10, State: state(true, 0)})
	}
}

// P10.2: an answer to a probe that was given up does not count, nor one to a probe that was never sent.
func TestAnswerToNone(t *testing.T) {
	c := settings(10, 5, 1, 1)
	for _, nonce := range []int64{math.MinInt64, -1, 0, 7, 8, math.MaxInt64} {
		checkAlive(t, api.Probe{}, c, nonce, api.Probe{})
		first, _ := probe.Tick(api.Probe{}, c, 0, 7)
		for _, now := range []int64{5, 6, 9} {
			given, sent := probe.Tick(first, c, now, 8)
			if sent || given.Open {
				t.Fatalf("Tick at %d = %v, %v", now, given, sent)
			}
			checkAlive(t, given, c, nonce, given)
		}
	}
	// The nonce of a Tick that sends nothing is no probe's.
	first, _ := probe.Tick(api.Probe{}, c, 0, 7)
	waiting, _ := probe.Tick(first, c, 4, 8)
	checkAlive(t, waiting, c, 8, waiting)
}

// ledger has the outcome of each probe, in order, apart from what a Probe holds.
type ledger struct {
	open     bool
	nonce    int64
	over     int64 // from when on it counts as bad
	outcomes []bool
	sent     int
}

func (l *ledger) tick(now, wait, nonce int64, sent bool) {
	if l.open && now >= l.over {
		l.open, l.outcomes = false, append(l.outcomes, false)
	}
	if sent {
		l.open, l.nonce, l.over, l.sent = true, nonce, now+wait, l.sent+1
	}
}

func (l *ledger) answer(nonce int64) {
	if l.open && nonce == l.nonce {
		l.open, l.outcomes = false, append(l.outcomes, true)
	}
}

func (l *ledger) check(p api.Probe, c api.Config, from api.Hyster) error {
	if want := hyster.All(from, l.outcomes, c.Rise, c.Fall); p.State != want || p.Open != l.open {
		return fmt.Errorf("%v after %v, want State %v, Open %v", p, l.outcomes, want, l.open)
	}
	return nil
}

// P10.2 and P10.3: of any calls each probe counts once, as good with its answer, or as bad at its Wait; each sent one counts, but the one that is open.
func TestEachCountsOnce(t *testing.T) {
	good, bad := 0, 0
	for seed := range int64(3000) {
		r := rand.New(rand.NewSource(seed))
		c := settings(r.Int63n(12), r.Int63n(16), 1+r.Intn(5), 1+r.Intn(5))
		from := state(r.Intn(2) == 0, 0)
		p, l, now := api.Probe{State: from}, ledger{}, int64(0)
		for nonce := range int64(60) {
			if r.Intn(2) == 0 {
				now += r.Int63n(6)
				sent := false
				p, sent = probe.Tick(p, c, now, nonce)
				l.tick(now, c.Wait, nonce, sent)
			} else {
				answer := nonce - r.Int63n(8)
				p = probe.Alive(p, c, answer)
				l.answer(answer)
			}
			if err := l.check(p, c, from); err != nil {
				t.Fatalf("seed %d: %v", seed, err)
			}
		}
		open := 0
		if p.Open {
			open = 1
		}
		if len(l.outcomes)+open != l.sent {
			t.Fatalf("seed %d: %d sent, %d counted, %d open", seed, l.sent, len(l.outcomes), open)
		}
		for _, outcome := range l.outcomes {
			if outcome {
				good++
			} else {
				bad++
			}
		}
	}
	if good < 3000 || bad < 3000 {
		t.Errorf("only %d good ones, %d bad ones", good, bad)
	}
}

// P10.3: of Ticks at times that rise no two send within Every, with answers between them or none, from any probe on.
func TestSendsApart(t *testing.T) {
	sends := 0
	for seed := range int64(3000) {
		r := rand.New(rand.NewSource(seed))
		c := settings(r.Int63n(20), r.Int63n(30), 1+r.Intn(3), 1+r.Intn(3))
		p := api.Probe{Next: r.Int63n(30), Open: r.Intn(2) == 0, Nonce: -1, Since: r.Int63n(30)}
		pace, seldom := 1+r.Int63n(15), 1+r.Intn(4)
		now, last := r.Int63n(40), int64(-1)
		for nonce := range int64(80) {
			sent := false
			p, sent = probe.Tick(p, c, now, nonce)
			if sent && last >= 0 && now-last < c.Every {
				t.Fatalf("seed %d: sent at %d and at %d, with Every %d", seed, last, now, c.Every)
			}
			if sent {
				last = now
				sends++
			}
			if r.Intn(seldom) == 0 {
				p = probe.Alive(p, c, nonce)
			}
			now += 1 + r.Int63n(pace)
		}
	}
	if sends < 30000 {
		t.Errorf("only %d sends", sends)
	}
}

// P10.3: with a Tick at each time, probes that are answered, or whose Wait is at most Every, are sent each Every exactly.
func TestSendsEach(t *testing.T) {
	for every := int64(1); every <= 12; every++ {
		for _, wait := range []int64{0, 1, every / 2, every - 1, every, every + 1, 3 * every, maxTime} {
			for _, answered := range both {
				if !answered && wait > every {
					continue
				}
				c := settings(every, wait, 2, 2)
				p := api.Probe{}
				for now := range 10 * every {
					sent := false
					if p, sent = probe.Tick(p, c, now, now); sent != (now%every == 0) {
						t.Fatalf("Every %d, Wait %d: at %d sent is %v", every, wait, now, sent)
					}
					if sent && answered {
						p = probe.Alive(p, c, now)
					}
				}
			}
		}
	}
}

// P10.3: who is never answered goes down behind Fall probes, each of which counts exactly at its Wait.
func TestNeverAnswered(t *testing.T) {
	for _, every := range []int64{1, 2, 7, 10} {
		for _, wait := range []int64{0, 1, 5, 6, 7, 8, 10, 11, 25} {
			for fall := 1; fall <= 5; fall++ {
				checkNeverAnswered(t, every, wait, fall, 0)
				checkNeverAnswered(t, every, wait, fall, 1000)
			}
		}
	}
}

// checkNeverAnswered makes a Tick at each time from a first one on, at which the first probe is sent.
func checkNeverAnswered(t *testing.T, every, wait int64, fall int, first int64) {
	t.Helper()
	c := settings(every, wait, 3, fall)
	p := api.Probe{State: state(true, 0), Next: first}
	p, _ = probe.Tick(p, c, first, 0)
	apart := max(every, wait, 1) // a Tick is made once a time
	for now := first + 1; now <= first+apart*int64(fall+3); now++ {
		p, _ = probe.Tick(p, c, now, now)
		// How many have counted by now: those that were sent at first, first + apart and so on, each Wait ago or more, and ahead of this Tick.
		due := int64(0)
		for sent := first; sent < now && now >= sent+wait; sent += apart {
			due++
		}
		want := state(true, int(due))
		if due >= int64(fall) {
			want = state(false, 0)
		}
		if p.State != want {
			t.Fatalf("Every %d, Wait %d, Fall %d: at %d %v, want State %v", every, wait, fall, now, p, want)
		}
	}
}

// P10.3: with Ticks that are seldom, a probe counts at the first of them at its Wait or behind, and only once.
func TestSeldomTicks(t *testing.T) {
	c := settings(100, 10, 3, 3)
	p, _ := probe.Tick(api.Probe{State: state(true, 0)}, c, 0, 1)
	for _, l := range []struct {
		now  int64
		run  int
		sent bool
	}{{5, 0, false}, {9, 0, false}, {37, 1, false}, {38, 1, false}, {99, 1, false}, {120, 1, true}, {129, 1, false}, {219, 2, false}, {220, 2, true}} {
		sent := false
		if p, sent = probe.Tick(p, c, l.now, l.now); p.State != state(true, l.run) || sent != l.sent {
			t.Errorf("at %d: %v, %v, want Run %d, %v", l.now, p, sent, l.run, l.sent)
		}
	}
	p, sent := probe.Tick(p, c, 5000, 5000)
	if want := (api.Probe{Next: 5100, Open: true, Nonce: 5000, Since: 5000}); p != want || !sent {
		t.Errorf("at 5000: %v, %v, want %v", p, sent, want)
	}
}

// P10.3: who answers each probe at once comes up behind Rise of them, and stays up.
func TestAlwaysAnswered(t *testing.T) {
	for _, every := range []int64{0, 1, 7, 10} {
		for _, wait := range []int64{0, 1, 5, 10, 25} {
			for rise := 1; rise <= 5; rise++ {
				c := settings(every, wait, rise, 1)
				p, answers := api.Probe{}, 0
				for now := range int64(100) {
					sent := false
					if p, sent = probe.Tick(p, c, now, now); sent {
						p = probe.Alive(p, c, now)
						answers++
					}
					want := state(false, answers)
					if answers >= rise {
						want = state(true, 0)
					}
					if p.State != want || p.Open {
						t.Fatalf("Every %d, Wait %d, Rise %d: after %d answers %v, want State %v", every, wait, rise, answers, p, want)
					}
				}
			}
		}
	}
}

// P10.3: an answer one tick ahead of the Wait counts as good; at the Wait the Tick comes first, and it counts as bad.
func TestAnswerAtWait(t *testing.T) {
	for _, wait := range []int64{1, 2, 5, 9} {
		c := settings(10, wait, 1, 1)
		for _, up := range both {
			p, _ := probe.Tick(api.Probe{State: state(up, 0)}, c, 0, 7)
			early, _ := probe.Tick(p, c, wait-1, 8)
			checkAlive(t, early, c, 7, api.Probe{Next: 10, Nonce: 7, State: state(true, 0)})
			late, _ := probe.Tick(p, c, wait, 8)
			checkAlive(t, late, c, 7, api.Probe{Next: 10, Nonce: 7, State: state(false, 0)})
		}
	}
}
