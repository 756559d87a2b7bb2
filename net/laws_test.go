package net_test

import (
	"fmt"
	"math/rand"
	"slices"
	"testing"

	"locum/api"
	"locum/net"
)

// Promise P7.2, and P7.1 for calls in any order.

// played is a net that calls are tried on, with the messages that it must have in order, and with what became of each message, which is told by its bytes alone.
type played struct {
	net      *net.Net
	messages []string
	in       map[string]int // how often a message was sent or duplicated
	out      map[string]int // how often it was taken or dropped
}

func newPlayed() *played {
	return &played{net: net.New(), in: map[string]int{}, out: map[string]int{}}
}

func (p *played) send(t *testing.T, name, s string) {
	t.Helper()
	want := api.ErrFull
	if len(p.messages) < api.MaxFlight {
		want = api.OK
		p.messages = with(p.messages, s)
	}
	err := p.net.Send([]byte(s))
	checkErr(t, name, err, want)
	if err == api.OK {
		p.in[s]++
	}
}

func (p *played) dup(t *testing.T, name string, i int) {
	t.Helper()
	want := api.OK
	switch {
	case i < 0 || i >= len(p.messages):
		want = api.ErrArg
	case len(p.messages) == api.MaxFlight:
		want = api.ErrFull
	default:
		p.messages = with(p.messages, p.messages[i])
	}
	b, _ := p.net.At(i)
	err := p.net.Dup(i)
	checkErr(t, name, err, want)
	if err == api.OK {
		p.in[string(b)]++
	}
}

func (p *played) take(t *testing.T, name string, i int) {
	t.Helper()
	b, found := p.net.Take(i)
	if i < 0 || i >= len(p.messages) {
		checkNone(t, name, b, found)
		return
	}
	if string(b) != p.messages[i] || !found {
		t.Errorf("%s = %.40q, %v, want %.40q", name, b, found, p.messages[i])
	}
	p.out[string(b)]++
	p.messages = without(p.messages, i)
}

func (p *played) drop(t *testing.T, name string, i int) {
	t.Helper()
	b, found := p.net.At(i)
	if p.net.Drop(i) != found {
		t.Errorf("%s is not what At has told", name)
	}
	if i >= 0 && i < len(p.messages) {
		p.out[string(b)]++
		p.messages = without(p.messages, i)
	}
}

// check is P7.1 by the list, and P7.2 by the counts.
func (p *played) check(t *testing.T, name string) {
	t.Helper()
	checkNet(t, name, p.net, p.messages)
	transit := map[string]int{}
	for i := range p.net.Len() {
		b, _ := p.net.At(i)
		transit[string(b)]++
	}
	for s, out := range p.out {
		if out > p.in[s] {
			t.Errorf("%s: %.40q was sent or duplicated %d times, taken or dropped %d times", name, s, p.in[s], out)
		}
	}
	for s, in := range p.in {
		if transit[s] != in-p.out[s] {
			t.Errorf("%s: %.40q is in transit %d times, was sent or duplicated %d times, taken or dropped %d times", name, s, transit[s], in, p.out[s])
		}
	}
}

// drain takes all messages, in some order: then each was taken or dropped exactly as often as it was sent or duplicated.
func (p *played) drain(t *testing.T, name string, r *rand.Rand) {
	t.Helper()
	for len(p.messages) > 0 {
		p.take(t, name+", drained", r.Intn(len(p.messages)))
	}
	p.check(t, name+", drained")
	for s, in := range p.in {
		if p.out[s] != in {
			t.Errorf("%s, drained: %.40q was sent or duplicated %d times, taken or dropped %d times", name, s, in, p.out[s])
		}
	}
}

// someMessage is often one that was sent before, or an empty one.
func someMessage(r *rand.Rand, call int) string {
	switch r.Intn(4) {
	case 0:
		return fmt.Sprint(r.Intn(5))
	case 1:
		return ""
	}
	return fmt.Sprint("call ", call)
}

// someNumber is seldom one that there is no message of.
func someNumber(r *rand.Rand, size int) int {
	if r.Intn(8) == 0 {
		l := absent(size)
		return l[r.Intn(len(l))]
	}
	return r.Intn(size + 1)
}

// playSome plays so many calls; of ten, so many send or duplicate.
func (p *played) playSome(t *testing.T, name string, r *rand.Rand, calls, adds int) {
	t.Helper()
	for call := range calls {
		name, i := fmt.Sprintf("%s, call %d: ", name, call), someNumber(r, len(p.messages))
		switch adding, first := r.Intn(10) < adds, r.Intn(2) == 0; {
		case adding && first:
			p.send(t, name+"Send", someMessage(r, call))
		case adding:
			p.dup(t, fmt.Sprintf("%sDup(%d)", name, i), i)
		case first:
			p.take(t, fmt.Sprintf("%sTake(%d)", name, i), i)
		default:
			p.drop(t, fmt.Sprintf("%sDrop(%d)", name, i), i)
		}
		p.check(t, name)
	}
}

func TestAnyOrder(t *testing.T) {
	for seed := range int64(100) {
		r, p, name := rand.New(rand.NewSource(seed)), newPlayed(), fmt.Sprintf("seed %d", seed)
		for _, adds := range []int{7, 5, 3} {
			p.playSome(t, name, r, 60, adds)
		}
		p.drain(t, name, r)
	}
}

// Calls in any order around the bound.
func TestAnyOrderFull(t *testing.T) {
	for seed := range int64(20) {
		r, p, name := rand.New(rand.NewSource(seed)), newPlayed(), fmt.Sprintf("seed %d", seed)
		for i := range api.MaxFlight - r.Intn(4) {
			p.send(t, name, someMessage(r, -i))
		}
		p.playSome(t, name, r, 60, 6)
		p.drain(t, name, r)
	}
}

// playAll plays these calls on a new net; Send has another message each time, or the same one.
func playAll(t *testing.T, calls []int, same bool) {
	t.Helper()
	p := newPlayed()
	for k, call := range calls {
		s, i, name := fmt.Sprint(k), call/4, fmt.Sprintf("%v, call %d", calls, k)
		if same {
			s = "same"
		}
		switch call % 4 {
		case 0:
			p.send(t, name, s)
		case 1:
			p.dup(t, name, i)
		case 2:
			p.take(t, name, i)
		case 3:
			p.drop(t, name, i)
		}
	}
	p.check(t, fmt.Sprint(calls))
}

// All orders of a few calls, with the numbers 0 to 2.
func TestEveryOrder(t *testing.T) {
	const most = 5
	orders := [][]int{nil}
	for range most {
		var longer [][]int
		for _, calls := range orders {
			playAll(t, calls, false)
			playAll(t, calls, true)
			for _, call := range []int{0, 1, 2, 3, 5, 6, 7, 9, 10, 11} {
				longer = append(longer, append(slices.Clip(calls), call))
			}
		}
		orders = longer
	}
	for _, calls := range orders {
		playAll(t, calls, false)
	}
}
