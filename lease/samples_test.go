package lease_test

import (
	"fmt"
	"math"
	"math/rand"
	"testing"

	"locum/api"
	"locum/lease"
)

const (
	epoch = 7 // of the holds under test
	nonce = 1000
)

// config is one of which F and L alone count.
func config(f int, length int64) api.Config { return api.Config{F: f, L: length} }

// someFs are values of F in range and beyond.
func someFs() []int {
	return []int{math.MinInt, math.MinInt / 2, -2, -1, 0, 1, 2, 3, 4, 5, 31, 32, 63, 64, math.MaxInt / 2, math.MaxInt}
}

// lengths are values of L in range and beyond.
func lengths() []int64 {
	return []int64{math.MinInt64, -1 << 32, -20, -1, 0, 1, 20, 1<<20 - 1, 1 << 20, 1<<20 + 1, 1<<32 + 5, math.MaxInt64 - 1000, math.MaxInt64}
}

// nodes are the senders that matter: acceptors, their neighbours, and numbers that fewer bits take for an acceptor.
func nodes() []int {
	return []int{math.MinInt, -1 << 32, -256, -64, -2, -1, 0, 1, 2, 3, 4, 5, 6, 7, 8, 31, 32, 63, 64, 65, 128, 255, 256, 1 << 32, 1<<32 + 1, math.MaxInt}
}

// numbers are values of an int64 that matter: small ones, the bounds of times, and the edges.
func numbers() []int64 {
	return []int64{math.MinInt64, math.MinInt64 + 1, -1 << 32, -2, -1, 0, 1, 2, 20, 1 << 20, 1 << 32, api.MaxTime - 1, api.MaxTime, api.MaxTime + 1, math.MaxInt64 - 1, math.MaxInt64}
}

// full is a hold with something in each field.
func full() api.Hold { return api.Hold{Epoch: epoch, Nonce: nonce, Grants: 1 << 20, Until: 1010} }

// with is a hold, a message or a config with some fields changed.
func with[T api.Hold | api.Msg | api.Config](x T, change func(x *T)) T {
	change(&x)
	return x
}

// grant is an acceptor's grant for the holds under test.
func grant(from int) api.Msg {
	return api.Msg{Kind: api.MsgLease, From: from, To: 3, Epoch: epoch, Nonce: nonce}
}

// grantOf is an acceptor's grant for a hold.
func grantOf(h api.Hold, from int) api.Msg {
	return api.Msg{Kind: api.MsgLease, From: from, Epoch: h.Epoch, Nonce: h.Nonce}
}

// filled is a message with something in each field that the chapter does not name.
func filled(m api.Msg) api.Msg {
	m.To, m.Ballot, m.Accepted, m.Time, m.Up, m.Code = 99, 16, 17, 18, 19, 20
	m.HasPlan, m.Plan = true, api.Plan{Epoch: 21, Target: 1, Pen: []int{22}, Changes: []int64{23}}
	m.ID, m.Session, m.Payload = []int64{24, 25, 26}, []byte{27}, []byte{28}
	return m
}

func tell(h api.Hold) string {
	return fmt.Sprintf("{epoch %d, nonce %d, grants %b, until %d}", h.Epoch, h.Nonce, h.Grants, h.Until)
}

func tellMsg(m api.Msg) string {
	return fmt.Sprintf("{kind %d from %d, epoch %d, nonce %d}", m.Kind, m.From, m.Epoch, m.Nonce)
}

// limited is a number that is no less than low, and no greater than high.
func limited[T int | int64](n, low, high T) T {
	if n < low {
		return low
	}
	if n > high {
		return high
	}
	return n
}

// most tells whether the bits of a majority of the acceptors are set, by the document's words.
func most(c api.Config, mask uint64) bool {
	f, set := limited(c.F, 0, 3), 0
	for i := 0; i <= 2*f; i++ {
		if mask&(1<<i) != 0 {
			set++
		}
	}
	return set >= f+1
}

// askWords is E1 by the document's words.
func askWords(h api.Hold, epoch int64, now int64) api.Hold {
	until := int64(0)
	if h.Epoch == epoch {
		until = h.Until
	}
	return api.Hold{Epoch: epoch, Nonce: now, Grants: 0, Until: until}
}

// grantWords is E2 by the document's words.
func grantWords(h api.Hold, c api.Config, m api.Msg) api.Hold {
	if m.Kind != 11 {
		return h
	}
	if m.Epoch != h.Epoch {
		return h
	}
	if m.Nonce != h.Nonce {
		return h
	}
	if m.From < 0 || m.From > 2*limited(c.F, 0, 3) {
		return h
	}
	if m.Nonce < 0 || m.Nonce > api.MaxTime {
		return h
	}
	h.Grants = h.Grants | uint64(1)<<uint(m.From)
	if most(c, h.Grants) {
		end := m.Nonce + limited(c.L, 0, 1<<20)
		if end > h.Until {
			h.Until = end
		}
	}
	return h
}

// liveWords is E3 by the document's words.
func liveWords(h api.Hold, epoch int64, now int64) bool {
	if h.Epoch != epoch {
		return false
	}
	return now < h.Until
}

// check holds what a grant makes of a hold.
func check(t *testing.T, h api.Hold, c api.Config, m api.Msg, want api.Hold) {
	t.Helper()
	if got := lease.Grant(h, c, m); got != want {
		t.Errorf("F %d, L %d: %s and %s: %s, want %s", c.F, c.L, tell(h), tellMsg(m), tell(got), tell(want))
	}
}

// checkLive holds whether a hold is live.
func checkLive(t *testing.T, h api.Hold, epoch, now int64, want bool) {
	t.Helper()
	if lease.Live(h, epoch, now) != want {
		t.Errorf("Live(%s, %d, %d) is not %v", tell(h), epoch, now, want)
	}
}

// someOf is one of a list.
func someOf[T any](r *rand.Rand, l ...T) T { return l[r.Intn(len(l))] }

// someHold is one with any grants, mostly about to have a majority.
func someHold(r *rand.Rand) api.Hold {
	h := api.Hold{Epoch: r.Int63n(3), Nonce: someOf(r, 0, 1, r.Int63n(100), api.MaxTime-r.Int63n(2)), Grants: r.Uint64() & r.Uint64() & 127}
	h.Until = h.Nonce + r.Int63n(50) - 10
	switch r.Intn(8) {
	case 0:
		h.Nonce = someOf(r, numbers()...)
	case 1:
		h.Epoch = someOf(r, numbers()...)
	case 2:
		h.Until = someOf(r, numbers()...)
	case 3:
		h.Grants |= r.Uint64()
	}
	return h
}

// someGrant is one that suits a hold, more or less.
func someGrant(r *rand.Rand, h api.Hold) api.Msg {
	m := grantOf(h, r.Intn(7))
	if r.Intn(2) == 0 {
		m = filled(m)
	}
	switch r.Intn(12) {
	case 0:
		m.Kind = api.MsgKind(r.Intn(21))
	case 1:
		m.Epoch += someOf[int64](r, -1, 1, 1<<32)
	case 2:
		m.Nonce += someOf[int64](r, -1, 1, 1<<32)
	case 3:
		m.From = someOf(r, nodes()...)
	}
	return m
}

// someConfig is one with any F and L.
func someConfig(r *rand.Rand) api.Config {
	c := config(r.Intn(6)-1, r.Int63n(30))
	if r.Intn(4) == 0 {
		c.L = someOf(r, lengths()...)
	}
	return c
}
