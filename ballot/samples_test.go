package ballot_test

import (
	"math"
	"math/big"
	"math/rand"
	"slices"
	"sort"
	"testing"

	"locum/api"
	"locum/ballot"
)

// The document's bounds, written out.
const (
	maxRound = 1073741823
	maxBoot  = 1048575
	maxIndex = 15
	perRound = 16777216 // from a ballot to the one with the same boot and index a round above
	perBoot  = 16
	greatest = 18014398509481983 // of all ballots
)

// parts are what a ballot is made of.
type parts struct {
	round, boot int64
	index       int
}

// right tells whether all three are in range.
func (p parts) right() bool {
	return p.round >= 0 && p.round <= maxRound && rightOf(p.boot, p.index)
}

// rightOf tells whether a boot and an index are in range.
func rightOf(boot int64, index int) bool {
	return boot >= 0 && boot <= maxBoot && index >= 0 && index <= maxIndex
}

// sum is the ballot of parts in range, or not, by the document's words, in numbers of any size.
func (p parts) sum() *big.Int {
	sum := new(big.Int).Mul(big.NewInt(p.round), new(big.Int).Exp(big.NewInt(2), big.NewInt(24), nil))
	sum.Add(sum, new(big.Int).Mul(big.NewInt(p.boot), big.NewInt(16)))
	return sum.Add(sum, big.NewInt(int64(p.index)))
}

// made is the first half of L1 by the document's words.
func made(p parts) (int64, api.Errno) {
	if !p.right() {
		return 0, api.ErrArg
	}
	return p.sum().Int64(), api.OK
}

// taken is the second half of L1 by the document's words: of all parts, which rise with their ballots, those whose ballot is b.
func taken(b int64) (parts, bool) {
	var p parts
	above := func(round, boot int64, index int) bool {
		return parts{round, boot, index}.sum().Cmp(big.NewInt(b)) > 0
	}
	p.round = max(0, int64(sort.Search(maxRound+1, func(n int) bool { return above(int64(n), 0, 0) }))-1)
	p.boot = max(0, int64(sort.Search(maxBoot+1, func(n int) bool { return above(p.round, int64(n), 0) }))-1)
	p.index = max(0, sort.Search(maxIndex+1, func(n int) bool { return above(p.round, p.boot, n) })-1)
	if p.sum().Cmp(big.NewInt(b)) != 0 {
		return parts{}, false
	}
	return p, true
}

// following is L2 by the document's words: the first round of all whose ballot is greater.
func following(b int64, boot int64, index int) (int64, api.Errno) {
	if !rightOf(boot, index) {
		return 0, api.ErrArg
	}
	round := sort.Search(maxRound+1, func(n int) bool {
		return parts{int64(n), boot, index}.sum().Cmp(big.NewInt(b)) > 0
	})
	if round > maxRound {
		return 0, api.ErrTooMany
	}
	return made(parts{int64(round), boot, index})
}

func checkMake(t *testing.T, p parts, want int64, err api.Errno) {
	t.Helper()
	if got, e := ballot.Make(p.round, p.boot, p.index); got != want || e != err {
		t.Errorf("Make(%d, %d, %d) = %d, %d, want %d, %d", p.round, p.boot, p.index, got, int(e), want, int(err))
	}
}

// checkMakeWords holds Make against the document's words.
func checkMakeWords(t *testing.T, p parts) {
	t.Helper()
	want, err := made(p)
	checkMake(t, p, want, err)
}

func checkParts(t *testing.T, b int64, want parts, is bool) {
	t.Helper()
	if round, boot, index, right := ballot.Parts(b); (parts{round, boot, index}) != want || right != is {
		t.Errorf("Parts(%d) = %d, %d, %d, %v, want %d, %d, %d, %v", b, round, boot, index, right, want.round, want.boot, want.index, is)
	}
}

// checkPartsWords holds Parts against the document's words.
func checkPartsWords(t *testing.T, b int64) {
	t.Helper()
	want, is := taken(b)
	checkParts(t, b, want, is)
}

func checkNext(t *testing.T, b int64, boot int64, index int, want int64, err api.Errno) {
	t.Helper()
	if got, e := ballot.Next(b, boot, index); got != want || e != err {
		t.Errorf("Next(%d, %d, %d) = %d, %d, want %d, %d", b, boot, index, got, int(e), want, int(err))
	}
}

// checkNextWords holds Next against the document's words.
func checkNextWords(t *testing.T, b int64, boot int64, index int) {
	t.Helper()
	want, err := following(b, boot, index)
	checkNext(t, b, boot, index, want, err)
}

// ballotOf is the ballot of parts in range.
func ballotOf(t *testing.T, round, boot int64, index int) int64 {
	t.Helper()
	b, err := ballot.Make(round, boot, index)
	if err != api.OK {
		t.Fatalf("Make(%d, %d, %d) has the error %d", round, boot, index, int(err))
	}
	return b
}

// powers are the least and the greatest number up to a bound, and about each power of 2.
func powers(most int64) []int64 {
	l := []int64{0, most}
	for n := int64(1); n <= most; n *= 2 {
		l = append(l, n-1, n, n+1)
	}
	slices.Sort(l)
	return slices.DeleteFunc(slices.Compact(l), func(n int64) bool { return n > most })
}

// rightRounds, rightBoots and rightIndices are in range: the least and the greatest ones, and those between.
func rightRounds() []int64 { return append(powers(maxRound), 123456789, maxRound/2+7, maxRound-2) }

func rightBoots() []int64 { return append(powers(maxBoot), 123456, 0xabcde, maxBoot-2) }

func rightIndices() []int { return []int{0, 1, 2, 3, 4, 5, 6, 7, 8, 9, 10, 11, 12, 13, 14, 15} }

// wrongOnes are below 0 or above a bound: one beyond, such as fewer bits take for one in range, and the edges of the type.
func wrongOnes(most int64) []int64 {
	return []int64{
		math.MinInt64, math.MinInt64 + 1, math.MinInt64 + most, -1 << 62, -1 << 60, -1 << 40, -1 << 39, -1 << 32, -1<<32 + 1,
		math.MinInt32, -most - 2, -most - 1, -most, -2, -1,
		most + 1, most + 2, most + 3, 2 * most, 2*most + 1, 2*most + 2, 1 << 31, 1<<32 + 1, 1 << 32, 1<<32 + most,
		1 << 39, 1 << 40, 1<<40 + 1, 1 << 59, 1 << 60, 1<<60 + 1, 1 << 62, math.MaxInt64 - most, math.MaxInt64 - 1, math.MaxInt64,
	}
}

func wrongRounds() []int64 { return wrongOnes(maxRound) }

func wrongBoots() []int64 { return wrongOnes(maxBoot) }

func wrongIndices() []int {
	var l []int
	for _, n := range wrongOnes(maxIndex) {
		l = append(l, int(n))
	}
	return append(l, 256, 257, 65536, 65551)
}

// noBallots are numbers that are no ballot: negative ones, those above the greatest ballot, and the edges of the type.
func noBallots() []int64 {
	return []int64{
		math.MinInt64, math.MinInt64 + 1, math.MinInt64 + perRound, math.MinInt64 + greatest, math.MinInt64 + greatest + 1,
		-1 << 62, -greatest - 2, -greatest - 1, -greatest, -greatest + 1, -1 << 32, -perRound - 1, -perRound, -perRound + 1,
		-maxBoot - 1, -perBoot - 1, -perBoot, -perBoot + 1, -2, -1,
		greatest + 1, greatest + 2, greatest + perBoot, greatest + 1 + perBoot, greatest + perRound, greatest + 1 + perRound,
		2 * greatest, 2*greatest + 1, 2*greatest + 2, 1 << 55, 1 << 60, 1 << 62, math.MaxInt64 - greatest, math.MaxInt64 - perRound, math.MaxInt64 - 1, math.MaxInt64,
	}
}

// edges are numbers to be greater than: no ballots, and about ballots of first and last rounds, boots and indices.
func edges() []int64 {
	l := noBallots()
	for _, round := range []int64{0, 1, 2, maxRound / 2, maxRound - 1, maxRound} {
		for _, boot := range []int64{0, 1, 2, maxBoot / 2, maxBoot - 1, maxBoot} {
			for _, index := range []int{0, 1, 7, 14, 15} {
				b := parts{round, boot, index}.sum().Int64()
				l = append(l, b-1, b, b+1)
			}
		}
	}
	slices.Sort(l)
	return slices.Compact(l)
}

// someParts are in range, rather at the edges and small than not.
func someParts(r *rand.Rand) parts {
	return parts{someUpTo(r, maxRound), someUpTo(r, maxBoot), int(someUpTo(r, maxIndex))}
}

func someUpTo(r *rand.Rand, most int64) int64 {
	switch r.Intn(6) {
	case 0:
		return 0
	case 1:
		return most
	case 2:
		return min(r.Int63n(4), most)
	case 3:
		return most - min(r.Int63n(4), most)
	default:
		return r.Int63n(most + 1)
	}
}

// someNumber is a ballot, or close to one, or any number.
func someNumber(r *rand.Rand) int64 {
	switch r.Intn(4) {
	case 0:
		l := noBallots()
		return l[r.Intn(len(l))]
	case 1:
		return int64(r.Uint64()) >> r.Intn(64)
	default:
		return someParts(r).sum().Int64() + r.Int63n(5) - 2
	}
}
