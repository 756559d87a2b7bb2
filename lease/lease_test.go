package lease_test

import (
	"math"
	"math/bits"
	"math/rand"
	"reflect"
	"testing"

	"locum/api"
	"locum/lease"
)

// Promise P17.1: E1 to E3, one by one.

// checkAsk holds what is asked for, whatever was ahead of it.
func checkAsk(t *testing.T, h api.Hold, epoch, now int64) {
	t.Helper()
	before := h
	want := askWords(h, epoch, now)
	if got := lease.Ask(h, epoch, now); got != want || h != before {
		t.Errorf("Ask(%s, %d, %d) = %s, want %s", tell(before), epoch, now, tell(got), tell(want))
	}
}

// E1: the same epoch, and others; any Until, Nonce and Grants ahead of it.
func TestAsk(t *testing.T) {
	for _, e := range append(numbers(), epoch) {
		for _, now := range numbers() {
			for _, grants := range []uint64{0, 1, 7, 1 << 63, math.MaxUint64} {
				for _, until := range numbers() {
					checkAsk(t, api.Hold{Epoch: epoch, Nonce: now - 1, Grants: grants, Until: until}, e, now)
					checkAsk(t, api.Hold{Epoch: e, Nonce: now, Grants: grants, Until: until}, e, now)
					checkAsk(t, api.Hold{Epoch: e, Nonce: until, Grants: grants, Until: until}, e, now)
				}
			}
		}
	}
}

// E1: the numbers written out.
func TestAskWrittenOut(t *testing.T) {
	for _, x := range []struct {
		h     api.Hold
		epoch int64
		now   int64
		want  api.Hold
	}{
		{api.Hold{}, 0, 0, api.Hold{}},
		{api.Hold{}, 1, 5, api.Hold{Epoch: 1, Nonce: 5}},
		{full(), epoch, 1005, api.Hold{Epoch: epoch, Nonce: 1005, Until: 1010}},
		{full(), epoch, nonce, api.Hold{Epoch: epoch, Nonce: nonce, Until: 1010}},
		{full(), epoch, 3, api.Hold{Epoch: epoch, Nonce: 3, Until: 1010}},
		{full(), epoch, 2000, api.Hold{Epoch: epoch, Nonce: 2000, Until: 1010}},
		{full(), epoch + 1, 1005, api.Hold{Epoch: epoch + 1, Nonce: 1005}},
		{full(), epoch - 1, 1005, api.Hold{Epoch: epoch - 1, Nonce: 1005}},
		{full(), epoch + 1<<32, 1005, api.Hold{Epoch: epoch + 1<<32, Nonce: 1005}},
		{full(), -epoch, -9, api.Hold{Epoch: -epoch, Nonce: -9}},
		{api.Hold{Epoch: -1, Grants: 9, Until: -4}, -1, math.MinInt64, api.Hold{Epoch: -1, Nonce: math.MinInt64, Until: -4}},
	} {
		if got := lease.Ask(x.h, x.epoch, x.now); got != x.want {
			t.Errorf("Ask(%s, %d, %d) = %s, want %s", tell(x.h), x.epoch, x.now, tell(got), tell(x.want))
		}
	}
}

// E2: a message of any other kind, another epoch or another nonce leaves the hold as it is.
func TestOtherMessages(t *testing.T) {
	c := config(0, 20)
	for _, h := range []api.Hold{full(), {Epoch: epoch, Nonce: nonce}, {Epoch: epoch, Nonce: nonce, Grants: 127, Until: math.MinInt64}} {
		for _, m := range []api.Msg{grant(0), filled(grant(0))} {
			if lease.Grant(h, c, m) == h {
				t.Errorf("%s changes nothing", tellMsg(m))
			}
			for kind := api.MsgKind(-2); kind <= 300; kind++ {
				if kind != api.MsgLease {
					check(t, h, c, with(m, func(m *api.Msg) { m.Kind = kind }), h)
				}
			}
			for _, n := range append(numbers(), epoch-1, epoch+1, epoch+1<<32, -epoch, nonce) {
				check(t, h, c, with(m, func(m *api.Msg) { m.Epoch = n }), h)
			}
			for _, n := range append(numbers(), nonce-1, nonce+1, nonce+1<<32, -nonce, epoch) {
				check(t, h, c, with(m, func(m *api.Msg) { m.Nonce = n }), h)
			}
		}
	}
}

// E2: what a message has beside its kind, sender, epoch and nonce counts nothing.
func TestGrantWithMore(t *testing.T) {
	for f := range 4 {
		for from := range 2*f + 1 {
			for _, h := range []api.Hold{full(), {Epoch: epoch, Nonce: nonce, Grants: 7}} {
				check(t, h, config(f, 20), filled(grant(from)), lease.Grant(h, config(f, 20), grant(from)))
			}
		}
	}
	for _, code := range []int{0, api.CodeWrite, api.CodeLead, 3, api.MaxCode} {
		m := with(grant(0), func(m *api.Msg) { m.Code = code })
		check(t, full(), config(0, 20), m, with(full(), func(h *api.Hold) { h.Grants, h.Until = 1<<20|1, 1020 }))
	}
}

// E2: of config only F and L count.
func TestOnlyFAndLCount(t *testing.T) {
	c := api.Config{F: 1, L: 20, M: 9, Deciders: 4, Targets: 16, Routers: 3, Observers: 7, Tiers: []int{1, 0}, B: 3, Cap: 9, Span: 8, S: 7, Retry: 6}
	check(t, full(), c, grant(3), full())
	h := with(full(), func(h *api.Hold) { h.Grants = 1 })
	check(t, h, c, grant(2), with(h, func(h *api.Hold) { h.Grants, h.Until = 5, 1020 }))
}

// E2: of each sender, for each F, with any bits set already.
func TestSenders(t *testing.T) {
	for _, f := range someFs() {
		for _, from := range nodes() {
			for _, grants := range []uint64{0, 1, 2, 3, 5, 6, 7, 15, 1 << 6, 1 << 7, 127, 1 << 63, math.MaxUint64 - 127, math.MaxUint64} {
				h := api.Hold{Epoch: epoch, Nonce: nonce, Grants: grants, Until: 1010}
				check(t, h, config(f, 20), grant(from), grantWords(h, config(f, 20), grant(from)))
			}
		}
	}
}

// E2: a From next to the acceptors' nodes leaves the hold as it is, the least and the greatest of them don't.
func TestFromAtBounds(t *testing.T) {
	h := api.Hold{Epoch: epoch, Nonce: nonce}
	for _, x := range []struct{ f, last int }{{math.MinInt, 0}, {-1, 0}, {0, 0}, {1, 2}, {2, 4}, {3, 6}, {4, 6}, {math.MaxInt, 6}} {
		for _, from := range []int{-1, x.last + 1, x.last + 2, 64 + x.last, math.MinInt, math.MaxInt} {
			check(t, h, config(x.f, 20), grant(from), h)
			all := with(h, func(h *api.Hold) { h.Grants = math.MaxUint64 })
			check(t, all, config(x.f, 20), grant(from), all)
		}
		for _, from := range []int{0, x.last} {
			if got := lease.Grant(h, config(x.f, 20), grant(from)); got.Grants != 1<<from {
				t.Errorf("F %d: a grant of %d: %s", x.f, from, tell(got))
			}
		}
	}
}

// E2: a Nonce below 0 or above MaxTime leaves the hold as it is, though it asked with that; those between don't.
func TestNonceAtBounds(t *testing.T) {
	for _, n := range []int64{math.MinInt64, -1 << 40, -2, -1, api.MaxTime + 1, api.MaxTime + 2, 1 << 41, math.MaxInt64 - 5, math.MaxInt64} {
		for _, until := range []int64{math.MinInt64, 0, n} {
			h := lease.Ask(api.Hold{Epoch: epoch, Until: until}, epoch, n)
			check(t, h, config(0, 20), grantOf(h, 0), h)
			h.Grants = 7
			check(t, h, config(1, math.MaxInt64), grantOf(h, 1), h)
		}
	}
	for _, n := range []int64{0, 1, 2, 1 << 32, api.MaxTime - 1, api.MaxTime} {
		h := lease.Ask(api.Hold{}, epoch, n)
		check(t, h, config(0, 20), grantOf(h, 0), api.Hold{Epoch: epoch, Nonce: n, Grants: 1, Until: n + 20})
		check(t, h, config(1, 20), grantOf(h, 0), api.Hold{Epoch: epoch, Nonce: n, Grants: 1})
		check(t, h, config(0, math.MaxInt64), grantOf(h, 0), api.Hold{Epoch: epoch, Nonce: n, Grants: 1, Until: n + 1<<20})
	}
}

// E2: an acceptor whose bit is set counts once.
func TestGrantAgain(t *testing.T) {
	h := api.Hold{Epoch: epoch, Nonce: nonce, Grants: 2}
	for range 9 {
		check(t, h, config(1, 20), grant(1), h)
		h = lease.Grant(h, config(1, 20), grant(1))
	}
	check(t, h, config(1, 20), grant(2), api.Hold{Epoch: epoch, Nonce: nonce, Grants: 6, Until: 1020})
}

// E2: the grant that makes a majority has the lease last until Nonce + L; one ahead of it only counts; one behind it finds it so.
func TestGrantOfAMajority(t *testing.T) {
	for f := range 4 {
		for last := range 2*f + 1 {
			h := api.Hold{Epoch: epoch, Nonce: nonce}
			for from := 0; bits.OnesCount64(h.Grants) < f; from++ {
				if from != last {
					next := with(h, func(h *api.Hold) { h.Grants |= 1 << from })
					check(t, h, config(f, 20), grant(from), next)
					h = next
				}
			}
			done := with(h, func(h *api.Hold) { h.Grants, h.Until = h.Grants|1<<last, 1020 })
			check(t, h, config(f, 20), grant(last), done)
			for from := range 2*f + 1 {
				check(t, done, config(f, 20), grant(from), with(done, func(h *api.Hold) { h.Grants |= 1 << from }))
			}
		}
	}
}

// E2: with a majority that is set already, a grant has the lease last, too, even one that is set itself.
func TestMajorityAlready(t *testing.T) {
	for _, from := range []int{0, 1, 2} {
		h := api.Hold{Epoch: epoch, Nonce: nonce, Grants: 3, Until: 5}
		check(t, h, config(1, 20), grant(from), with(h, func(h *api.Hold) { h.Grants, h.Until = 3|1<<from, 1020 }))
	}
}

// E2: bits of nodes that are no acceptors are kept, and count nothing.
func TestBitsOfOthers(t *testing.T) {
	others := uint64(math.MaxUint64 - 7)
	h := with(full(), func(h *api.Hold) { h.Grants = others })
	check(t, h, config(1, 20), grant(0), with(h, func(h *api.Hold) { h.Grants = others | 1 }))
	h.Grants = others | 1
	check(t, h, config(1, 20), grant(2), with(h, func(h *api.Hold) { h.Grants, h.Until = others|5, 1020 }))
}

// E2: Until becomes the greater one of it and Nonce + L, for each L, and each Until about it.
func TestUntil(t *testing.T) {
	for _, n := range []int64{0, 1, nonce, api.MaxTime} {
		for _, x := range []struct{ given, counts int64 }{
			{math.MinInt64, 0}, {-1 << 32, 0}, {-1, 0}, {0, 0}, {1, 1}, {20, 20}, {1<<20 - 1, 1<<20 - 1}, {1 << 20, 1 << 20},
			{1<<20 + 1, 1 << 20}, {1<<32 + 5, 1 << 20}, {math.MaxInt64 - api.MaxTime, 1 << 20}, {math.MaxInt64, 1 << 20},
		} {
			end := n + x.counts
			for _, until := range []int64{math.MinInt64, -1, 0, end - 1<<32, end - 1, end, end + 1, end + 1<<32, math.MaxInt64} {
				h := api.Hold{Epoch: epoch, Nonce: n, Grants: 1, Until: until}
				want := api.Hold{Epoch: epoch, Nonce: n, Grants: 3, Until: max(until, end)}
				check(t, h, config(1, x.given), grantOf(h, 1), want)
				h.Grants = 0
				check(t, h, config(1, x.given), grantOf(h, 1), api.Hold{Epoch: epoch, Nonce: n, Grants: 2, Until: until})
			}
		}
	}
}

// E2: holds and messages of other epochs than 7, and of epoch 0, are granted alike.
func TestGrantOfAnyEpoch(t *testing.T) {
	for _, e := range numbers() {
		h := api.Hold{Epoch: e, Nonce: nonce, Grants: 4}
		check(t, h, config(1, 20), grantOf(h, 0), api.Hold{Epoch: e, Nonce: nonce, Grants: 5, Until: 1020})
	}
}

// E3: the same epoch and others, and times below, at and above Until.
func TestLive(t *testing.T) {
	for _, until := range append(numbers(), 1010) {
		for _, h := range []api.Hold{{Epoch: epoch, Until: until}, {Epoch: epoch, Nonce: nonce, Grants: 7, Until: until}, {Epoch: epoch, Nonce: until, Until: until}} {
			for _, now := range append(numbers(), 1009, 1010, 1011) {
				checkLive(t, h, epoch, now, now < until)
				for _, e := range append(numbers(), epoch-1, epoch+1, epoch+1<<32, -epoch) {
					checkLive(t, h, e, now, false)
				}
			}
			if until > math.MinInt64 && until < math.MaxInt64 {
				checkLive(t, h, epoch, until-1, true)
				checkLive(t, h, epoch, until, false)
				checkLive(t, h, epoch, until+1, false)
			}
		}
	}
	for _, e := range numbers() {
		checkLive(t, api.Hold{Epoch: e, Until: 9}, e, 8, true)
		checkLive(t, api.Hold{Epoch: e, Until: 9}, e, 9, false)
	}
	checkLive(t, api.Hold{}, 0, 0, false)
}

// The examples of the chapter.
func TestExamples(t *testing.T) {
	c := config(1, 20)
	h := lease.Ask(api.Hold{}, 1, 5)
	one := lease.Grant(h, c, grantOf(h, 0))
	two := lease.Grant(one, c, grantOf(h, 2))
	checkLive(t, two, 1, 24, true)
	checkLive(t, two, 1, 25, false)
	for _, now := range []int64{0, 5, 6, 24, 25} {
		checkLive(t, one, 1, now, false)
		checkLive(t, h, 1, now, false)
	}
}

// E1 to E3: for any holds and messages they answer what the document's words say.
func TestAnyHold(t *testing.T) {
	r := rand.New(rand.NewSource(51))
	granted, longer, live := 0, 0, 0
	for range 300000 {
		h, c := someHold(r), someConfig(r)
		m := someGrant(r, h)
		want := grantWords(h, c, m)
		check(t, h, c, m, want)
		e, now := h.Epoch+r.Int63n(2), h.Nonce+r.Int63n(60)-10
		checkAsk(t, h, e, now)
		checkLive(t, want, e, now, liveWords(want, e, now))
		if want != h {
			granted++
		}
		if want.Until != h.Until {
			longer++
		}
		if lease.Live(want, e, now) {
			live++
		}
	}
	if granted < 50000 || longer < 20000 || live < 20000 {
		t.Errorf("only %d grants counted, %d made a lease longer, %d leases were live", granted, longer, live)
	}
}

// P3: neither the lists of a config nor those of a message change, nor what is spare behind them.
func TestNothingHandedInChanges(t *testing.T) {
	for f := range 4 {
		fresh := func() (api.Config, api.Msg) {
			c, m := config(f, 20), filled(grant(f))
			c.Tiers = append(make([]int, 0, 9), 1, 0)
			m.ID = append(make([]int64, 0, 9), 1, 2, 3)
			m.Payload = append(make([]byte, 0, 9), 1)
			return c, m
		}
		c, m := fresh()
		lease.Grant(full(), c, m)
		c2, m2 := fresh()
		if !reflect.DeepEqual(c, c2) || !reflect.DeepEqual(m, m2) || c.Tiers[:3][2] != 0 || m.ID[:4][3] != 0 || m.Payload[:2][1] != 0 {
			t.Errorf("%v and %v became %v and %v", c2, m2, c, m)
		}
	}
}

// P3: two calls of the same say the same, whatever was called between.
func TestNothingIsKept(t *testing.T) {
	r := rand.New(rand.NewSource(52))
	for range 2000 {
		h, c := someHold(r), someConfig(r)
		m := someGrant(r, h)
		first := lease.Grant(h, c, m)
		lease.Ask(someHold(r), 3, 4)
		lease.Grant(someHold(r), someConfig(r), m)
		lease.Live(someHold(r), 3, 4)
		check(t, h, c, m, first)
	}
}
