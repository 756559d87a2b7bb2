package probe_test

import (
	"math"
	"math/rand"
	"reflect"
	"testing"

	"locum/api"
	"locum/hyster"
	"locum/probe"
)

const maxTime = api.MaxTime

// both are what an answer can be, and what Up can be.
var both = []bool{false, true}

func state(up bool, run int) api.Hyster { return api.Hyster{Up: up, Run: run} }

// settings are the four fields of Config that are asked for, the others being zero.
func settings(every, wait int64, rise, fall int) api.Config {
	return api.Config{Every: every, Wait: wait, Rise: rise, Fall: fall}
}

// noisy are the settings with something in each field that is not asked for.
func noisy(c api.Config) api.Config {
	c.F, c.Deciders, c.Targets, c.Routers, c.Observers = 2, 3, 4, 5, 6
	c.Tiers = []int{1, 2, 3, 4}
	c.Fresh, c.L, c.M, c.Dwell, c.D, c.W, c.B = 11, 12, 13, 14, 15, 16, 7
	c.Hit, c.Suppress, c.Reuse, c.Half = 17, 18, 19, 20
	c.First, c.Step, c.StepTime = 21, 22, 23
	c.S, c.Cap, c.Span, c.Room, c.Tries, c.Retry = 24, 25, 26, 27, 28, 29
	return c
}

// bounded is a time, or a sum, by the document's words.
func bounded(n int64) int64 {
	if n < 0 {
		return 0
	}
	if n > maxTime {
		return maxTime
	}
	return n
}

// ticked is B1 by the document's words.
func ticked(p api.Probe, c api.Config, now, nonce int64) (api.Probe, bool) {
	over := bounded(bounded(p.Since) + bounded(c.Wait))
	if p.Open && bounded(now) >= over {
		p = api.Probe{Next: p.Next, Nonce: p.Nonce, Since: p.Since, State: hyster.Next(p.State, false, c.Rise, c.Fall)}
	}
	if !p.Open && bounded(now) >= bounded(p.Next) {
		next := bounded(bounded(now) + bounded(c.Every))
		return api.Probe{Next: next, Open: true, Nonce: nonce, Since: bounded(now), State: p.State}, true
	}
	return p, false
}

func checkTick(t *testing.T, p api.Probe, c api.Config, now, nonce int64, want api.Probe, sent bool) {
	t.Helper()
	if got, is := probe.Tick(p, c, now, nonce); got != want || is != sent {
		t.Errorf("Tick(%v, Every %d, Wait %d, Rise %d, Fall %d, at %d, nonce %d) = %v, %v, want %v, %v", p, c.Every, c.Wait, c.Rise, c.Fall, now, nonce, got, is, want, sent)
	}
}

// checkWords holds Tick against the document's words.
func checkWords(t *testing.T, p api.Probe, c api.Config, now, nonce int64) {
	t.Helper()
	want, sent := ticked(p, c, now, nonce)
	checkTick(t, p, c, now, nonce, want, sent)
}

func checkAlive(t *testing.T, p api.Probe, c api.Config, nonce int64, want api.Probe) {
	t.Helper()
	if got := probe.Alive(p, c, nonce); got != want {
		t.Errorf("Alive(%v, Rise %d, Fall %d, nonce %d) = %v, want %v", p, c.Rise, c.Fall, nonce, got, want)
	}
}

// edges are times that are negative, about 0, about MaxTime and above it, and at the edges of their type.
func edges() []int64 {
	return []int64{
		math.MinInt64, math.MinInt64 + 1, -maxTime - 1, -maxTime, math.MinInt32, -7, -1, 0, 1, 2, 6, 1 << 32,
		maxTime/2 - 1, maxTime / 2, maxTime/2 + 1, maxTime - 6, maxTime - 1, maxTime, maxTime + 1, maxTime + 6, 2 * maxTime,
		math.MaxInt64 - maxTime, math.MaxInt64 - 1, math.MaxInt64,
	}
}

// states are some states, with a Run that no answers lead to among them.
func states() []api.Hyster {
	var l []api.Hyster
	for _, up := range both {
		for _, run := range []int{math.MinInt, -1, 0, 1, 2, 3, 1 << 31, math.MaxInt} {
			l = append(l, state(up, run))
		}
	}
	return l
}

// bounds are some Rise, or some Fall.
func bounds() []int {
	return []int{math.MinInt, -1, 0, 1, 2, 3, 4, 1 << 31, 1<<31 + 1, math.MaxInt}
}

// someTime is one of the edges, or close to one of them, or small.
func someTime(r *rand.Rand) int64 {
	switch l := edges(); r.Intn(3) {
	case 0:
		return r.Int63n(30) - 5
	case 1:
		return l[r.Intn(len(l))]
	default:
		return l[r.Intn(len(l))] + r.Int63n(5) - 2
	}
}

func someState(r *rand.Rand) api.Hyster {
	l := states()
	return l[r.Intn(len(l))]
}

func someProbe(r *rand.Rand) api.Probe {
	return api.Probe{Next: someTime(r), Open: r.Intn(3) > 0, Nonce: r.Int63n(4), Since: someTime(r), State: someState(r)}
}

func someSettings(r *rand.Rand) api.Config {
	l := bounds()
	return settings(someTime(r), someTime(r), l[r.Intn(len(l))], l[r.Intn(len(l))])
}

// sameConfig reports whether nothing of a Config was changed, the spare capacity of its list included.
func sameConfig(c, before api.Config, spare []int) bool {
	return reflect.DeepEqual(c, before) && reflect.DeepEqual(c.Tiers[:cap(c.Tiers)], spare)
}
