package tally_test

import (
	"math"
	"math/rand"
	"slices"
	"testing"

	"locum/api"
	"locum/tally"
)

// Promise P11.1: Put and Tally, one by one.

// T1: a vote of an observer who has none stands at the end, whatever its Observer is.
func TestPutAtEnd(t *testing.T) {
	for _, observer := range append(strangers(), 0, 3, 4, 15, 16, 63, 64) {
		for _, l := range [][]api.Vote{cast(10, 1), cast(10, 1, 2), {vote(1, 7, 3), vote(2, 7, 1), vote(1, 6, 2)}} {
			if slices.ContainsFunc(l, func(w api.Vote) bool { return w.Observer == observer }) {
				continue
			}
			v := vote(observer, 9, 5)
			checkPut(t, l, v, slices.Concat(l, []api.Vote{v}))
		}
	}
}

// T1: a first vote is the only one, behind nil, an empty list, and an empty list with room.
func TestPutFirst(t *testing.T) {
	room := cast(10, 1, 2, 3)
	for _, observer := range append(strangers(), 0, 1, 2) {
		v := vote(observer, 5, 7)
		for _, l := range [][]api.Vote{nil, {}, room[:0], room[3:], room[1:1:1]} {
			checkPut(t, l, v, []api.Vote{v})
		}
	}
	if !slices.Equal(room, cast(10, 1, 2, 3)) {
		t.Errorf("what lies behind an empty list has become %v", room)
	}
}

// T1: the first vote of the same observer is replaced in its place; later ones of the same observer stay.
func TestPutReplaces(t *testing.T) {
	for _, observer := range append(strangers(), 0, 5) {
		own, other, third := vote(observer, 1, 10), vote(7, 2, 11), vote(-7, 3, 12)
		later, v := vote(observer, 4, 13), vote(observer, 8, 20)
		checkPut(t, []api.Vote{own}, v, []api.Vote{v})
		checkPut(t, []api.Vote{own, other, third}, v, []api.Vote{v, other, third})
		checkPut(t, []api.Vote{other, own, third}, v, []api.Vote{other, v, third})
		checkPut(t, []api.Vote{other, third, own}, v, []api.Vote{other, third, v})
		checkPut(t, []api.Vote{own, later}, v, []api.Vote{v, later})
		checkPut(t, []api.Vote{own, own, own}, v, []api.Vote{v, own, own})
		checkPut(t, []api.Vote{other, own, third, later, own}, v, []api.Vote{other, v, third, later, own})
	}
}

// T1: who votes is the Observer alone: neither the same bits nor the same time make two votes one, nor do others keep them apart.
func TestPutByObserver(t *testing.T) {
	checkPut(t, []api.Vote{vote(1, 5, 10)}, vote(2, 5, 10), []api.Vote{vote(1, 5, 10), vote(2, 5, 10)})
	checkPut(t, []api.Vote{vote(1, 5, 10), vote(2, 5, 10)}, vote(2, 5, 10), []api.Vote{vote(1, 5, 10), vote(2, 5, 10)})
	checkPut(t, []api.Vote{vote(0, 5, 10)}, vote(1<<32, 5, 10), []api.Vote{vote(0, 5, 10), vote(1<<32, 5, 10)})
	checkPut(t, []api.Vote{vote(1, 5, 10)}, vote(-1, 5, 10), []api.Vote{vote(1, 5, 10), vote(-1, 5, 10)})
	checkPut(t, []api.Vote{vote(0, 5, 10)}, vote(256, 5, 10), []api.Vote{vote(0, 5, 10), vote(256, 5, 10)})
	checkPut(t, []api.Vote{{}}, vote(0, 1, 1), []api.Vote{vote(0, 1, 1)})
	checkPut(t, []api.Vote{vote(0, 1, 1)}, api.Vote{}, []api.Vote{{}})
}

// T1: Up and At are put as they are, an earlier At too.
func TestPutAsIs(t *testing.T) {
	for _, at := range edges() {
		for _, up := range masks() {
			v := vote(1, up, at)
			checkPut(t, cast(10, 1), v, []api.Vote{vote(0, 1, 10), v})
			checkPut(t, cast(10, 1, 3), v, []api.Vote{vote(0, 1, 10), v})
			checkPut(t, []api.Vote{vote(4, up, at), vote(1, 3, 50)}, v, []api.Vote{vote(4, up, at), v})
		}
	}
}

// T1, held against the document's words, for any votes.
func TestPutOfAny(t *testing.T) {
	for seed := range int64(5000) {
		r := rand.New(rand.NewSource(seed))
		observers := 1 + r.Intn(6)
		l := someVotes(r, r.Intn(12), observers)
		v := vote(someObserver(r, observers), r.Uint64(), someTime(r))
		checkPut(t, l, v, put(l, v))
	}
}

// T1, for votes that are put one by one: each observer has one, in the order in which they voted first.
func TestPutOneByOne(t *testing.T) {
	var l []api.Vote
	for i := range 3000 {
		l = tally.Put(l, vote(i*7%100, uint64(i), int64(i)))
	}
	var want []api.Vote
	for i := range 100 {
		last := 2900 + i
		want = append(want, vote(last*7%100, uint64(last), int64(last)))
	}
	if !slices.Equal(l, want) {
		t.Errorf("%v, want %v", l, want)
	}
}

// P3: the votes that were passed stay as they were, and so does what lies behind their end.
func TestPutChangesNothing(t *testing.T) {
	whole := cast(10, 1, 2, 3, 4, 5, 6)
	before := slices.Clone(whole)
	for from := range len(whole) + 1 {
		for to := from; to <= len(whole); to++ {
			for observer := -1; observer <= len(whole); observer++ {
				l, v := whole[from:to], vote(observer, 99, 99)
				checkPut(t, l, v, put(l, v))
				if !slices.Equal(whole, before) {
					t.Fatalf("Put of %v to [%d:%d] made %v of %v", v, from, to, whole, before)
				}
			}
		}
	}
}

// P3: the result shares no memory with what was passed, nor with another result, behind its end neither.
func TestPutIsNew(t *testing.T) {
	for size := range 20 {
		whole := same(0, size+3, 1, 10)
		before := slices.Clone(whole)
		for _, l := range [][]api.Vote{whole[:size], whole[:size:size], whole[1 : size+1]} {
			for _, observer := range []int{-1, 0, 1, size - 1, size, math.MaxInt} {
				v := vote(observer, 99, 99)
				first, second := tally.Put(l, v), tally.Put(l, v)
				want := slices.Clone(first)
				spoil(second)
				if !slices.Equal(whole, before) || !slices.Equal(first, want) {
					t.Fatalf("what is done to Put(%s, %v) is done to others too", shown(l), v)
				}
				spoil(first)
				if !slices.Equal(whole, before) {
					t.Fatalf("what is done to Put(%s, %v) is done to what was passed too", shown(l), v)
				}
				checkPut(t, l, v, want)
			}
		}
	}
}

// P3: a result stays as it was if what was passed is changed.
func TestPutKeepsNothing(t *testing.T) {
	for size := range 20 {
		for _, observer := range []int{-1, 0, size - 1, size} {
			l := same(0, size, 1, 10)
			v := vote(observer, 99, 99)
			got, want := tally.Put(l, v), put(l, v)
			spoil(l)
			if !slices.Equal(got, want) {
				t.Errorf("Put of %v to %d votes has become %v", v, size, got)
			}
		}
	}
}

// spoil changes all votes of a list, and all that lies behind its end.
func spoil(l []api.Vote) {
	for i := range l[:cap(l)] {
		l[:cap(l)][i] = vote(-99, 99, -99)
	}
}

// T1: the two examples of the chapter.
func TestTallyExamples(t *testing.T) {
	checkTally(t, cast(10, 3, 1), 3, 10, 5, 1)
	checkTally(t, []api.Vote{vote(0, 3, 10), vote(1, 3, 4)}, 3, 10, 5, 0)
}

// T1: 0 for observers less than 1.
func TestTallyOfNoObservers(t *testing.T) {
	lists := [][]api.Vote{nil, cast(10, allBits), cast(10, allBits, allBits, allBits)}
	for _, observer := range strangers() {
		lists = append(lists, []api.Vote{vote(observer, allBits, 10)}, []api.Vote{vote(0, allBits, 10), vote(observer, allBits, 10)})
	}
	for _, l := range lists {
		for _, observers := range []int{0, -1, -2, -3, -4, -100, math.MinInt32, math.MinInt + 1, math.MinInt} {
			checkTally(t, l, observers, 10, 5, 0)
			checkTally(t, l, observers, 10, 0, 0)
			checkTally(t, l, observers, -1, -1, 0)
		}
	}
}

// T1: no votes set no bits.
func TestTallyOfNoVotes(t *testing.T) {
	for _, observers := range []int{1, 2, 3, 16, math.MaxInt} {
		for _, l := range [][]api.Vote{nil, {}, cast(10, allBits)[:0]} {
			checkTally(t, l, observers, 10, 5, 0)
		}
	}
}

// T1: a vote is fresh from At = now back to At = now - fresh exactly.
func TestTallyFresh(t *testing.T) {
	for _, now := range []int64{0, 1, 5, 100, 1 << 32, maxTime - 1, maxTime} {
		for _, fresh := range []int64{0, 1, 2, 5, 100, 1 << 32, maxTime - 1, maxTime} {
			for _, back := range []int64{0, 1, fresh / 2, fresh - 1, fresh} {
				if back >= 0 && back <= fresh && back <= now {
					checkTally(t, cast(now-back, 5), 1, now, fresh, 5)
				}
			}
			for _, older := range []int64{1, 2, 10, maxTime} {
				checkTally(t, cast(now-fresh-older, 5), 1, now, fresh, 0)
			}
			for _, newer := range []int64{1, 2, 10, maxTime} {
				checkTally(t, cast(now+newer, 5), 1, now, fresh, 0)
			}
		}
	}
}

// T1: At, now and fresh are 0 to MaxTime each, or nothing counts.
func TestTallyOfNoTime(t *testing.T) {
	for _, l := range []struct {
		at, now, fresh int64
		want           uint64
	}{
		{0, 0, 0, 5}, {-1, 0, 0, 0}, {-1, -1, 0, 0}, {0, -1, 0, 0}, {0, 0, -1, 0}, {-1, 0, 1, 0}, {-1, 0, 5, 0}, {-1, -1, 5, 0}, {-3, -2, 1, 0},
		{0, maxTime, maxTime, 5}, {0, maxTime, maxTime - 1, 0}, {1, maxTime, maxTime - 1, 5}, {0, maxTime, maxTime + 1, 0}, {maxTime, maxTime, maxTime + 1, 0},
		{maxTime, maxTime, 0, 5}, {maxTime, maxTime, maxTime, 5}, {maxTime - 1, maxTime, 0, 0}, {maxTime - 1, maxTime, 1, 5},
		{maxTime, maxTime + 1, 0, 0}, {maxTime, maxTime + 1, 1, 0}, {maxTime, maxTime + 1, 5, 0}, {maxTime + 1, maxTime + 1, 0, 0}, {maxTime + 1, maxTime + 1, 5, 0}, {maxTime + 1, maxTime, 5, 0},
		{1, maxTime + 1, maxTime, 0}, {0, 5, maxTime, 5}, {5, 5, maxTime, 5}, {0, 0, maxTime, 5}, {0, 0, maxTime + 1, 0}, {5, 5, -1, 0}, {6, 5, -1, 0}, {5, 5, math.MinInt64, 0},
		{5, 5, math.MaxInt64, 0}, {5, math.MaxInt64, math.MaxInt64, 0}, {math.MaxInt64, math.MaxInt64, 5, 0}, {math.MinInt64, 5, 5, 0}, {math.MinInt64, math.MinInt64, 5, 0}, {5, math.MinInt64, math.MaxInt64, 0}, {5, math.MinInt64, 5, 0},
	} {
		checkTally(t, cast(l.at, 5), 1, l.now, l.fresh, l.want)
		checkTally(t, []api.Vote{vote(0, 5, l.at), vote(1, 7, l.at), vote(2, 5, l.at)}, 3, l.now, l.fresh, l.want)
	}
}

// T1: fresh votes and others side by side, at all edges of time, held against the document's words.
func TestTallyOfAllTimes(t *testing.T) {
	for _, now := range edges() {
		for _, fresh := range edges() {
			for _, at := range edges() {
				for _, near := range []int64{-1, 0, 1} {
					checkWords(t, []api.Vote{vote(0, 6, at+near)}, 1, now, fresh)
					checkWords(t, []api.Vote{vote(0, 6, at+near), vote(1, 3, now)}, 2, now, fresh)
					checkWords(t, []api.Vote{vote(0, 6, now-fresh+near), vote(1, 3, at)}, 2, now, fresh)
				}
			}
		}
	}
}

// T1: Observers from 0 to observers - 1 count, no others.
func TestTallyObservers(t *testing.T) {
	for _, observers := range []int{1, 2, 3, 4, 5, 16, 63, 64, 65, 255, 256, 257} {
		most := observers/2 + 1
		others := same(0, most-1, 1, 10)
		for _, observer := range []int{most - 1, most, observers - 2, observers - 1} {
			if observer >= most-1 && observer < observers {
				checkTally(t, append(slices.Clip(others), vote(observer, 1, 10)), observers, 10, 0, 1)
			}
		}
		for _, observer := range append(strangers(), observers, observers+1, -observers) {
			if observer < 0 || observer >= observers {
				checkTally(t, append(slices.Clip(others), vote(observer, 1, 10)), observers, 10, 0, 0)
				checkTally(t, append([]api.Vote{vote(observer, 1, 10)}, others...), observers, 10, 0, 0)
			}
		}
	}
}

// T1: votes of nobody, however many they are, make no majority.
func TestTallyOfStrangers(t *testing.T) {
	var l []api.Vote
	for _, observer := range strangers() {
		l = append(l, vote(observer, allBits, 10))
	}
	for _, observers := range []int{1, 2, 3, 5, 10, 255} {
		checkTally(t, l, observers, 10, 5, 0)
	}
	checkTally(t, slices.Concat(l, cast(10, 6, 3, 5)), 3, 10, 5, 7)
	checkTally(t, slices.Concat(l, cast(10, 6, 1)), 3, 10, 5, 0)
	checkTally(t, slices.Concat(same(-1000, 0, allBits, 10), cast(10, 6), same(1, 1000, allBits, 10)), 1, 10, 5, 6)
}

// T1: for each Observer only the first vote counts, be it fresh or not.
func TestTallyCountsFirst(t *testing.T) {
	for _, l := range []struct {
		votes     []api.Vote
		observers int
		want      uint64
	}{
		{[]api.Vote{vote(0, 1, 10), vote(0, 2, 10)}, 1, 1},
		{[]api.Vote{vote(0, 0, 10), vote(0, 2, 10)}, 1, 0},
		{[]api.Vote{vote(0, 1, 8), vote(0, 2, 10)}, 1, 1},
		{[]api.Vote{vote(0, 1, 10), vote(0, 2, 8)}, 1, 1},
		{[]api.Vote{vote(0, 1, 4), vote(0, 1, 10)}, 1, 0},
		{[]api.Vote{vote(0, 1, 11), vote(0, 1, 10)}, 1, 0},
		{[]api.Vote{vote(0, 1, -1), vote(0, 1, 10)}, 1, 0},
		{[]api.Vote{vote(0, 1, maxTime+1), vote(0, 1, 10)}, 1, 0},
		{[]api.Vote{vote(0, 1, 10), vote(0, 1, 4)}, 1, 1},
		{[]api.Vote{vote(0, 1, 10), vote(0, 1, 10)}, 2, 0},
		{[]api.Vote{vote(0, 1, 10), vote(0, 1, 10), vote(0, 1, 10)}, 3, 0},
		{[]api.Vote{vote(0, 1, 10), vote(0, 1, 9), vote(1, 1, 8)}, 3, 1},
		{[]api.Vote{vote(0, 1, 4), vote(0, 1, 9), vote(1, 1, 8)}, 3, 0},
		{[]api.Vote{vote(0, 1, 4), vote(1, 1, 8), vote(0, 1, 9), vote(2, 1, 8)}, 3, 1},
		{[]api.Vote{vote(2, 4, 10), vote(1, 6, 10), vote(2, 3, 10), vote(1, 1, 10), vote(0, 3, 10)}, 3, 6},
		{[]api.Vote{vote(1, 1, 10), vote(-1, 1, 10), vote(1, 1, 10), vote(-1, 1, 10)}, 3, 0},
	} {
		checkTally(t, l.votes, l.observers, 10, 5, l.want)
	}
}

// T1: a later vote of the same observer changes nothing, wherever it stands behind the first one.
func TestTallyOfLaterVotes(t *testing.T) {
	polls(3000, func(seed int64, r *rand.Rand, p poll) {
		for i, v := range p.votes {
			at := i + 1 + r.Intn(len(p.votes)-i)
			more := slices.Insert(slices.Clone(p.votes), at, vote(v.Observer, r.Uint64(), 20+r.Int63n(20)))
			if got, want := p.of(more), p.of(p.votes); got != want {
				t.Fatalf("seed %d: %v, with a second vote %v: %#x, want %#x", seed, p, more[at], got, want)
			}
		}
	})
}

// T1: half of the observers, or fewer, are not enough; more than half are.
func TestTallyMajority(t *testing.T) {
	for _, l := range []struct{ observers, most int }{{1, 1}, {2, 2}, {3, 2}, {4, 3}, {5, 3}, {6, 4}, {7, 4}, {8, 5}, {15, 8}, {16, 9}, {17, 9}, {63, 32}, {64, 33}, {65, 33}, {254, 128}, {255, 128}, {256, 129}, {257, 129}, {511, 256}, {512, 257}, {1000, 501}, {65536, 32769}, {65537, 32769}} {
		for _, few := range []int{0, 1, l.most / 2, l.most - 2, l.most - 1} {
			if few >= 0 && few < l.most {
				checkTally(t, same(0, few, 5, 10), l.observers, 10, 5, 0)
				checkTally(t, same(l.observers-few, l.observers, 5, 10), l.observers, 10, 5, 0)
			}
		}
		for _, many := range []int{l.most, l.most + 1, (l.most + l.observers) / 2, l.observers} {
			if many <= l.observers {
				checkTally(t, same(0, many, 5, 10), l.observers, 10, 5, 5)
				checkTally(t, same(l.observers-many, l.observers, 5, 10), l.observers, 10, 5, 5)
			}
		}
	}
}

// T1: it is observers of which more than half are asked, not the votes that there are.
func TestTallyOfAbsent(t *testing.T) {
	checkTally(t, cast(10, 1, 1), 4, 10, 5, 0)
	checkTally(t, cast(10, 1, 1, 0), 4, 10, 5, 0)
	checkTally(t, cast(10, 1, 1, 1), 4, 10, 5, 1)
	checkTally(t, cast(10, 1, 1, 1), 5, 10, 5, 1)
	checkTally(t, cast(10, 1, 1, 1), 6, 10, 5, 0)
	checkTally(t, []api.Vote{vote(0, 1, 10), vote(1, 1, 4), vote(2, 1, 4)}, 3, 10, 5, 0)
}

// T1: each bit is counted by itself, 0 and 63 as all others.
func TestTallyBits(t *testing.T) {
	for bit := range 64 {
		one := uint64(1) << bit
		checkTally(t, cast(10, one), 1, 10, 5, one)
		checkTally(t, cast(10, ^one), 1, 10, 5, ^one)
		checkTally(t, cast(10, one, allBits, 0), 3, 10, 5, one)
		checkTally(t, cast(10, ^one, allBits, 0), 3, 10, 5, ^one)
		checkTally(t, cast(10, one, 0, 0), 3, 10, 5, 0)
		checkTally(t, cast(10, one, ^one), 2, 10, 5, 0)
		checkTally(t, cast(10, one, ^one, one, ^one, one), 5, 10, 5, one)
		for other := range 64 {
			two := uint64(1) << other
			checkTally(t, cast(10, one|two, one, two), 3, 10, 5, one|two)
			checkTally(t, cast(10, one|two, one), 2, 10, 5, one)
		}
	}
	for _, up := range masks() {
		checkTally(t, cast(10, up), 1, 10, 5, up)
		checkTally(t, cast(10, up, up), 2, 10, 5, up)
		checkTally(t, cast(10, up, 0), 2, 10, 5, 0)
		checkTally(t, cast(10, up, ^up, allBits), 3, 10, 5, allBits)
		checkTally(t, cast(10, up, ^up, 0), 3, 10, 5, 0)
	}
}

// T1: each bit with a count of its own.
func TestTallyOfAllCounts(t *testing.T) {
	for observers := 1; observers <= 64; observers++ {
		var l []api.Vote
		for observer := range observers {
			// Bit i is set by the observers from i on: by observers - i of them.
			l = append(l, vote(observer, 1<<(observer+1)-1, 10))
		}
		want := uint64(0)
		for bit := range observers {
			if observers-bit >= observers/2+1 {
				want |= 1 << bit
			}
		}
		checkTally(t, l, observers, 10, 5, want)
		slices.Reverse(l)
		checkTally(t, l, observers, 10, 5, want)
	}
}

// T1: few votes of many observers.
func TestTallyOfManyObservers(t *testing.T) {
	for _, observers := range []int{7, 8, 1000, math.MaxInt32, 1 << 32, math.MaxInt - 1, math.MaxInt} {
		checkTally(t, cast(10, allBits), observers, 10, 5, 0)
		checkTally(t, cast(10, allBits, allBits, allBits), observers, 10, 5, 0)
		checkTally(t, []api.Vote{vote(observers-1, allBits, 10), vote(observers/2, allBits, 10), vote(0, allBits, 10)}, observers, 10, 5, 0)
	}
}

// T1: many votes of few observers, the first one of each being among the others.
func TestTallyOfManyVotes(t *testing.T) {
	const size = 1 << 18
	l := make([]api.Vote, 0, 2*size)
	for i := range size {
		l = append(l, vote(i%3, 1<<(i%3), 10), vote(3+i%1000, allBits, 10))
	}
	checkTally(t, l, 3, 10, 5, 0)
	checkTally(t, l, 4, 10, 5, 0)
	checkTally(t, l, 1, 10, 5, 1)
	l = append(slices.Repeat([]api.Vote{vote(0, 6, 4)}, size), vote(1, 6, 10), vote(2, 3, 10))
	checkTally(t, l, 3, 10, 5, 2)
	l = append(slices.Repeat([]api.Vote{vote(0, 6, 10)}, size), vote(1, 3, 10), vote(0, 1, 10))
	checkTally(t, l, 3, 10, 5, 2)
	checkTally(t, l[:size], 3, 10, 5, 0)
}

// T1: many votes of many observers end soon too.
func TestTallyOfMany(t *testing.T) {
	const size = 1 << 18
	l := same(0, size, 5, 10)
	checkTally(t, l, size, 10, 5, 5)
	checkTally(t, l, 2*size-1, 10, 5, 5)
	checkTally(t, l, 2*size, 10, 5, 0)
	slices.Reverse(l)
	checkTally(t, append(l, l...), size, 10, 5, 5)
	checkTally(t, l, 1, 10, 5, 5)
	checkTally(t, l[:size-1], 1, 10, 5, 0)
}

// T1, held against the document's words, for any votes and any question.
func TestTallyOfAny(t *testing.T) {
	found := 0
	polls(20000, func(_ int64, r *rand.Rand, p poll) {
		checkWords(t, p.votes, p.observers, p.now, p.fresh)
		checkWords(t, p.votes, p.observers+r.Intn(3)-1, p.now, p.fresh)
		checkWords(t, p.votes, p.observers, someTime(r), p.fresh)
		checkWords(t, p.votes, p.observers, p.now, someTime(r))
		if p.of(p.votes) != 0 {
			found++
		}
	})
	if found < 5000 {
		t.Errorf("only %d majorities", found)
	}
}

// P3: the votes that were passed stay as they were, and the same call has the same result.
func TestTallyChangesNothing(t *testing.T) {
	polls(2000, func(seed int64, r *rand.Rand, p poll) {
		before := slices.Clone(p.votes)
		from := r.Intn(len(p.votes) + 1)
		to := from + r.Intn(len(p.votes)-from+1)
		part := p.of(p.votes[from:to])
		for range 3 {
			p.of(p.votes)
			if again := p.of(p.votes[from:to]); again != part {
				t.Fatalf("seed %d: Tally(%v) = %#x, and then %#x", seed, p, part, again)
			}
		}
		if !slices.Equal(p.votes, before) {
			t.Fatalf("seed %d: Tally has made %v of %v", seed, p.votes, before)
		}
	})
}

// T1: what Put made is what Tally counts.
func TestPutThenTally(t *testing.T) {
	l := tally.Put(nil, vote(0, 3, 10))
	l = tally.Put(l, vote(1, 1, 10))
	checkTally(t, l, 3, 10, 5, 1)
	checkTally(t, l, 3, 16, 5, 0)
	l = tally.Put(l, vote(1, 2, 16))
	checkTally(t, l, 3, 15, 5, 0)
	checkTally(t, l, 3, 16, 5, 0)
	l = tally.Put(l, vote(0, 3, 14))
	checkTally(t, l, 3, 16, 5, 2)
	// An older vote replaces a newer one all the same.
	l = tally.Put(l, vote(0, 3, 10))
	checkTally(t, l, 3, 16, 5, 0)
}
