package tally_test

import (
	"fmt"
	"math"
	"math/rand"
	"slices"
	"testing"

	"locum/api"
	"locum/tally"
)

const (
	maxTime = api.MaxTime
	allBits = math.MaxUint64
)

func vote(observer int, up uint64, at int64) api.Vote {
	return api.Vote{Observer: observer, Up: up, At: at}
}

// cast are votes of the observers from 0 on, one each, all of them at one time.
func cast(at int64, ups ...uint64) []api.Vote {
	var l []api.Vote
	for observer, up := range ups {
		l = append(l, vote(observer, up, at))
	}
	return l
}

// same are votes of the observers from one number up to another one, without it, that set the same bits.
func same(from, to int, up uint64, at int64) []api.Vote {
	var l []api.Vote
	for observer := from; observer < to; observer++ {
		l = append(l, vote(observer, up, at))
	}
	return l
}

// put is T1's Put by the document's words.
func put(l []api.Vote, v api.Vote) []api.Vote {
	var votes []api.Vote
	found := false
	for _, w := range l {
		if w.Observer == v.Observer && !found {
			votes, found = append(votes, v), true
		} else {
			votes = append(votes, w)
		}
	}
	if !found {
		votes = append(votes, v)
	}
	return votes
}

// counting tells by the document's words whether a vote is fresh.
func counting(v api.Vote, observers int, now, fresh int64) bool {
	for _, n := range []int64{v.At, now, fresh} {
		if n < 0 || n > maxTime {
			return false
		}
	}
	if now < v.At || v.At < now-fresh {
		return false
	}
	return v.Observer >= 0 && v.Observer < observers
}

// ballots are the fresh votes among the first ones of each observer.
func ballots(l []api.Vote, observers int, now, fresh int64) []api.Vote {
	var counted []api.Vote
	for i, v := range l {
		first := true
		for _, earlier := range l[:i] {
			first = first && earlier.Observer != v.Observer
		}
		if first && counting(v, observers, now, fresh) {
			counted = append(counted, v)
		}
	}
	return counted
}

// setters is how many of some votes set a bit.
func setters(l []api.Vote, bit int) uint64 {
	count := uint64(0)
	for _, v := range l {
		if v.Up&(uint64(1)<<bit) != 0 {
			count++
		}
	}
	return count
}

// tallied is T1's Tally by the document's words.
func tallied(l []api.Vote, observers int, now, fresh int64) uint64 {
	if observers < 1 {
		return 0
	}
	counted := ballots(l, observers, now, fresh)
	up := uint64(0)
	for bit := 0; bit < 64; bit++ {
		if 2*setters(counted, bit) > uint64(observers) {
			up += uint64(1) << bit
		}
	}
	return up
}

func checkPut(t *testing.T, l []api.Vote, v api.Vote, want []api.Vote) {
	t.Helper()
	if got := tally.Put(l, v); !slices.Equal(got, want) {
		t.Errorf("Put(%s, %v) = %s, want %s", shown(l), v, shown(got), shown(want))
	}
}

func checkTally(t *testing.T, l []api.Vote, observers int, now, fresh int64, want uint64) {
	t.Helper()
	if got := tally.Tally(l, observers, now, fresh); got != want {
		t.Errorf("Tally(%s, %d, %d, %d) = %#x, want %#x", shown(l), observers, now, fresh, got, want)
	}
}

// checkWords holds Tally against the document's words.
func checkWords(t *testing.T, l []api.Vote, observers int, now, fresh int64) {
	t.Helper()
	checkTally(t, l, observers, now, fresh, tallied(l, observers, now, fresh))
}

// shown is what a test tells of a list that may be long.
func shown(l []api.Vote) string {
	if len(l) > 20 {
		return fmt.Sprintf("%d votes", len(l))
	}
	return fmt.Sprint(l)
}

// strangers are Observers that are negative, or greater than any number of a node, up to the edges of their type.
func strangers() []int {
	return []int{math.MinInt, math.MinInt + 1, math.MinInt32, -256, -2, -1, 255, 256, 65536, math.MaxInt32, 1 << 32, math.MaxInt - 1, math.MaxInt}
}

// edges are times that are negative, about 0, about MaxTime and above it, and at the edges of their type.
func edges() []int64 {
	return []int64{
		math.MinInt64, math.MinInt64 + 1, -maxTime - 1, -maxTime, math.MinInt32, -2, -1, 0, 1, 2, 3, 1 << 32,
		maxTime/2 - 1, maxTime / 2, maxTime/2 + 1, maxTime - 2, maxTime - 1, maxTime, maxTime + 1, maxTime + 2, 2 * maxTime,
		math.MaxInt64 - maxTime, math.MaxInt64 - 1, math.MaxInt64,
	}
}

// masks are some sets of bits.
func masks() []uint64 {
	return []uint64{0, 1, 2, 3, 1 << 15, 1 << 31, 1 << 32, 1 << 62, 1 << 63, 1<<63 | 1, allBits - 1, allBits >> 1, allBits, 0x5555555555555555, 0xaaaaaaaaaaaaaaaa}
}

// someTime is one of the edges, or close to one of them, or small.
func someTime(r *rand.Rand) int64 {
	switch l := edges(); r.Intn(4) {
	case 0, 1:
		return r.Int63n(20) - 2
	case 2:
		return l[r.Intn(len(l))]
	default:
		return l[r.Intn(len(l))] + r.Int63n(5) - 2
	}
}

// someObserver is mostly one of so many, seldom one beside them.
func someObserver(r *rand.Rand, observers int) int {
	if r.Intn(12) == 0 {
		l := strangers()
		return l[r.Intn(len(l))]
	}
	return r.Intn(observers+2) - 1
}

// someMask has each bit set so many times in ten.
func someMask(r *rand.Rand, often int) uint64 {
	up := uint64(0)
	for bit := range 64 {
		if r.Intn(10) < often {
			up |= 1 << bit
		}
	}
	return up
}

// someVotes are votes, mostly of so many observers and of the times from 20 to 40, some of the same observer.
func someVotes(r *rand.Rand, size, observers int) []api.Vote {
	var l []api.Vote
	often := 3 + r.Intn(7)
	for range size {
		at := 20 + r.Int63n(20)
		if r.Intn(15) == 0 {
			at = someTime(r)
		}
		l = append(l, vote(someObserver(r, observers), someMask(r, often), at))
	}
	return l
}

// poll is what Tally is asked.
type poll struct {
	votes      []api.Vote
	observers  int
	now, fresh int64
}

// somePoll is a question of which many votes are fresh: one vote of most observers, in any order, and then some more.
func somePoll(r *rand.Rand) poll {
	p := poll{observers: 1 + r.Intn(9), now: 30 + r.Int63n(10), fresh: 5 + r.Int63n(30)}
	often := 4 + r.Intn(6)
	for _, observer := range r.Perm(p.observers) {
		if r.Intn(8) > 0 {
			p.votes = append(p.votes, vote(observer, someMask(r, often), 20+r.Int63n(20)))
		}
	}
	p.votes = append(p.votes, someVotes(r, r.Intn(6), p.observers)...)
	return p
}

func (p poll) of(votes []api.Vote) uint64 {
	return tally.Tally(votes, p.observers, p.now, p.fresh)
}

// ballots are the votes that count.
func (p poll) ballots() []api.Vote {
	return ballots(p.votes, p.observers, p.now, p.fresh)
}

// polls asks so many questions, each of which has a seed of its own.
func polls(size int64, ask func(seed int64, r *rand.Rand, p poll)) {
	for seed := range size {
		r := rand.New(rand.NewSource(seed))
		ask(seed, r, somePoll(r))
	}
}
