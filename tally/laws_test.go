package tally_test

import (
	"math"
	"math/bits"
	"math/rand"
	"slices"
	"testing"

	"locum/api"
	"locum/tally"
)

// Promises P11.2 and P11.3.

// P11.2: of each bit that is returned, more than half of the observers have set it.
func TestMostHaveSet(t *testing.T) {
	returned := 0
	polls(10000, func(seed int64, _ *rand.Rand, p poll) {
		up := p.of(p.votes)
		returned += bits.OnesCount64(up)
		for bit := range 64 {
			if count := setters(p.ballots(), bit); up>>bit&1 == 1 && count <= uint64(p.observers)-count {
				t.Fatalf("seed %d: bit %d of %v, which %d have set", seed, bit, p, count)
			}
		}
	})
	if returned < 50000 {
		t.Errorf("only %d bits", returned)
	}
}

// P11.2: of any two bits that are returned, one observer at least has set both.
func TestTwoBitsMeet(t *testing.T) {
	pairs := 0
	polls(5000, func(seed int64, _ *rand.Rand, p poll) {
		up, counted := p.of(p.votes), p.ballots()
		for first := range 64 {
			for second := range first {
				both := uint64(1)<<first | uint64(1)<<second
				if up&both != both {
					continue
				}
				pairs++
				if !slices.ContainsFunc(counted, func(v api.Vote) bool { return v.Up&both == both }) {
					t.Fatalf("seed %d: bits %d and %d of %v, which nobody has set together", seed, first, second, p)
				}
			}
		}
	})
	if pairs < 100000 {
		t.Errorf("only %d pairs", pairs)
	}
}

// P11.2: two halves that do not meet have no bit in common with each other, so that none of theirs is returned together.
func TestHalves(t *testing.T) {
	for observers := 2; observers <= 40; observers++ {
		for from := range observers + 1 {
			l := slices.Concat(same(0, from, 1, 10), same(from, observers, 2, 10))
			switch up := tally.Tally(l, observers, 10, 5); {
			case up == 3:
				t.Errorf("%d and %d of %d observers: both bits", from, observers-from, observers)
			case up&1 != 0 && from <= observers-from, up&2 != 0 && from >= observers-from:
				t.Errorf("%d and %d of %d observers: %#x", from, observers-from, observers, up)
			}
		}
	}
}

// stale are votes that are not fresh at a time: of nobody, too old, too new, or of no time.
func stale(p poll, up uint64) []api.Vote {
	var l []api.Vote
	for _, observer := range append(strangers(), p.observers, p.observers+1) {
		if observer < 0 || observer >= p.observers {
			l = append(l, vote(observer, up, p.now))
		}
	}
	for observer := range p.observers {
		for _, at := range []int64{math.MinInt64, -1, p.now - p.fresh - 1, p.now + 1, p.now + p.fresh, maxTime, maxTime + 1, math.MaxInt64} {
			if at < 0 || at < p.now-p.fresh || at > p.now {
				l = append(l, vote(observer, up, at))
			}
		}
	}
	return l
}

// P11.3: a vote that is not fresh, behind all others, changes nothing.
func TestStaleChangesNothing(t *testing.T) {
	found := 0
	polls(2000, func(seed int64, r *rand.Rand, p poll) {
		want := p.of(p.votes)
		if want != 0 {
			found++
		}
		for _, up := range []uint64{0, allBits, want, ^want, r.Uint64()} {
			votes := stale(p, up)
			for _, v := range votes {
				if got := p.of(append(slices.Clip(p.votes), v)); got != want {
					t.Fatalf("seed %d: %v, with %v too: %#x, want %#x", seed, p, v, got, want)
				}
			}
			if got := p.of(slices.Concat(p.votes, votes)); got != want {
				t.Fatalf("seed %d: %v, with many that are not fresh: %#x, want %#x", seed, p, got, want)
			}
		}
	})
	if found < 500 {
		t.Errorf("only %d majorities", found)
	}
}

// P11.3: a vote of nobody changes nothing wherever it stands, as it is nobody's first one.
func TestNobodysVote(t *testing.T) {
	polls(3000, func(seed int64, r *rand.Rand, p poll) {
		want := p.of(p.votes)
		for _, observer := range strangers() {
			if observer >= 0 && observer < p.observers {
				continue
			}
			at := r.Intn(len(p.votes) + 1)
			more := slices.Insert(slices.Clone(p.votes), at, vote(observer, r.Uint64(), p.now))
			if got := p.of(more); got != want {
				t.Fatalf("seed %d: %v, with %v too: %#x, want %#x", seed, p, more[at], got, want)
			}
		}
	})
}

// P11.3: a bit that is set anew in a fresh vote removes none, and adds no other one.
func TestBitSetAnew(t *testing.T) {
	added := 0
	polls(1000, func(seed int64, _ *rand.Rand, p poll) {
		before := p.of(p.votes)
		for i, v := range p.votes {
			if !counting(v, p.observers, p.now, p.fresh) {
				continue
			}
			for bit := range 64 {
				one := uint64(1) << bit
				more := slices.Clone(p.votes)
				more[i].Up |= one
				after := p.of(more)
				if after|one != before|one || after&before != before {
					t.Fatalf("seed %d: %v: %#x, with bit %d of vote %d %#x", seed, p, before, bit, i, after)
				}
				if after != before {
					added++
				}
			}
		}
	})
	if added < 1000 {
		t.Errorf("only %d bits added", added)
	}
}

// P11.3: another vote, of one who has none yet, removes no bit, and adds none that it does not set; an empty one adds none.
func TestAnotherVote(t *testing.T) {
	added := 0
	polls(5000, func(seed int64, r *rand.Rand, p poll) {
		before := p.of(p.votes)
		for observer := range p.observers {
			if slices.ContainsFunc(p.votes, func(v api.Vote) bool { return v.Observer == observer }) {
				continue
			}
			for _, up := range []uint64{0, allBits, before, ^before, r.Uint64()} {
				v := vote(observer, up, p.now-r.Int63n(min(p.fresh, p.now)+1))
				after := p.of(tally.Put(p.votes, v))
				if after&before != before || after&^before&^up != 0 {
					t.Fatalf("seed %d: %v: %#x, with %v too %#x", seed, p, before, v, after)
				}
				if after != before {
					added++
				}
			}
		}
	})
	if added < 1000 {
		t.Errorf("only %d votes added something", added)
	}
}

// P11.3: a vote that is emptied adds none, and removes none that it did not set.
func TestEmptyVote(t *testing.T) {
	removed := 0
	polls(5000, func(seed int64, _ *rand.Rand, p poll) {
		before := p.of(p.votes)
		for _, v := range p.votes {
			i := slices.IndexFunc(p.votes, func(w api.Vote) bool { return w.Observer == v.Observer })
			after := p.of(tally.Put(p.votes, vote(v.Observer, 0, p.now)))
			if after&^before != 0 || before&^after&^p.votes[i].Up != 0 {
				t.Fatalf("seed %d: %v: %#x, with an empty vote of %d %#x", seed, p, before, v.Observer, after)
			}
			if after != before {
				removed++
			}
		}
	})
	if removed < 1000 {
		t.Errorf("only %d votes removed something", removed)
	}
}

// P11.3: the order of votes of different observers does not matter.
func TestOrderOfVotes(t *testing.T) {
	polls(3000, func(seed int64, r *rand.Rand, p poll) {
		var l []api.Vote
		for _, v := range p.votes {
			if !slices.ContainsFunc(l, func(w api.Vote) bool { return w.Observer == v.Observer }) {
				l = append(l, v)
			}
		}
		want := p.of(p.votes)
		for range 5 {
			r.Shuffle(len(l), func(i, j int) { l[i], l[j] = l[j], l[i] })
			if got := p.of(l); got != want {
				t.Fatalf("seed %d: Tally(%v) of %v = %#x, want %#x", seed, l, p, got, want)
			}
		}
	})
}
