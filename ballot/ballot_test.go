package ballot_test

import (
	"math"
	"math/rand"
	"testing"

	"locum/api"
	"locum/ballot"
)

// Promise P14.1: L1 and L2, one by one.

// The examples of the chapter.
func TestExamples(t *testing.T) {
	checkMake(t, parts{1, 2, 3}, 16777251, api.OK)
	checkNext(t, 0, 0, 0, 16777216, api.OK)
	checkNext(t, -5, 0, 0, 0, api.OK)
}

// L1: the least and the greatest ballot, and those of one part alone.
func TestMakeOfOnePart(t *testing.T) {
	checkMake(t, parts{0, 0, 0}, 0, api.OK)
	checkMake(t, parts{0, 0, 1}, 1, api.OK)
	checkMake(t, parts{0, 0, 15}, 15, api.OK)
	checkMake(t, parts{0, 1, 0}, 16, api.OK)
	checkMake(t, parts{0, 1048575, 0}, 16777200, api.OK)
	checkMake(t, parts{1, 0, 0}, 16777216, api.OK)
	checkMake(t, parts{0, 1048575, 15}, 16777215, api.OK)
	checkMake(t, parts{1073741823, 0, 0}, 18014398492704768, api.OK)
	checkMake(t, parts{1073741823, 0, 15}, 18014398492704783, api.OK)
	checkMake(t, parts{1073741822, 1048575, 15}, 18014398492704767, api.OK)
	checkMake(t, parts{1073741823, 1048575, 14}, 18014398509481982, api.OK)
	checkMake(t, parts{1073741823, 1048575, 15}, 18014398509481983, api.OK)
}

// L1: each part at its bounds and beyond, the others being in range.
func TestMakeBounds(t *testing.T) {
	for _, boot := range []int64{0, 1, 5, maxBoot - 1, maxBoot} {
		for _, index := range rightIndices() {
			for _, round := range wrongRounds() {
				checkMake(t, parts{round, boot, index}, 0, api.ErrArg)
			}
			for _, round := range rightRounds() {
				checkMake(t, parts{round, boot, index}, round*perRound+boot*perBoot+int64(index), api.OK)
			}
		}
	}
	for _, round := range []int64{0, 1, 5, maxRound - 1, maxRound} {
		for _, index := range rightIndices() {
			for _, boot := range wrongBoots() {
				checkMake(t, parts{round, boot, index}, 0, api.ErrArg)
			}
			for _, boot := range rightBoots() {
				checkMake(t, parts{round, boot, index}, round*perRound+boot*perBoot+int64(index), api.OK)
			}
		}
		for _, boot := range []int64{0, 1, 5, maxBoot - 1, maxBoot} {
			for _, index := range wrongIndices() {
				checkMake(t, parts{round, boot, index}, 0, api.ErrArg)
			}
		}
	}
}

// L1: several parts out of range at once, also where their sum is a ballot.
func TestMakeOfWrong(t *testing.T) {
	for _, round := range wrongRounds() {
		for _, boot := range wrongBoots() {
			for _, index := range wrongIndices() {
				checkMake(t, parts{round, boot, index}, 0, api.ErrArg)
			}
			checkMake(t, parts{round, boot, 3}, 0, api.ErrArg)
		}
		checkMake(t, parts{round, 3, wrongIndices()[0]}, 0, api.ErrArg)
	}
	checkMake(t, parts{-1, 1048576, 0}, 0, api.ErrArg)
	checkMake(t, parts{1, -1048576, 0}, 0, api.ErrArg)
	checkMake(t, parts{1, -1, 16}, 0, api.ErrArg)
	checkMake(t, parts{0, 1, -16}, 0, api.ErrArg)
	checkMake(t, parts{0, -1, 16}, 0, api.ErrArg)
	checkMake(t, parts{1, 0, -1}, 0, api.ErrArg)
	checkMake(t, parts{1 << 40, 0, 0}, 0, api.ErrArg)
	checkMake(t, parts{0, 1 << 60, 0}, 0, api.ErrArg)
}

// L1, for any parts.
func TestMakeOfAny(t *testing.T) {
	r := rand.New(rand.NewSource(14))
	wrong := 0
	for range 100000 {
		p := someParts(r)
		switch r.Intn(12) {
		case 0:
			p.round = someNumber(r)
		case 1:
			p.boot = someNumber(r)
		case 2:
			p.index = int(someNumber(r))
		}
		checkMakeWords(t, p)
		if !p.right() {
			wrong++
		}
	}
	if wrong < 10000 {
		t.Errorf("only %d were out of range", wrong)
	}
}

// L1: ballots written out, and about the first and the last one of each part.
func TestPartsOfBallots(t *testing.T) {
	for _, l := range []struct {
		b    int64
		want parts
	}{
		{0, parts{0, 0, 0}},
		{1, parts{0, 0, 1}},
		{15, parts{0, 0, 15}},
		{16, parts{0, 1, 0}},
		{17, parts{0, 1, 1}},
		{31, parts{0, 1, 15}},
		{32, parts{0, 2, 0}},
		{16777199, parts{0, 1048574, 15}},
		{16777200, parts{0, 1048575, 0}},
		{16777215, parts{0, 1048575, 15}},
		{16777216, parts{1, 0, 0}},
		{16777217, parts{1, 0, 1}},
		{16777251, parts{1, 2, 3}},
		{33554431, parts{1, 1048575, 15}},
		{33554432, parts{2, 0, 0}},
		{18014398492704767, parts{1073741822, 1048575, 15}},
		{18014398492704768, parts{1073741823, 0, 0}},
		{18014398509481982, parts{1073741823, 1048575, 14}},
		{18014398509481983, parts{1073741823, 1048575, 15}},
	} {
		checkParts(t, l.b, l.want, true)
		checkMake(t, l.want, l.b, api.OK)
	}
}

// L1: a ballot of each part that is in range has these parts.
func TestPartsBounds(t *testing.T) {
	for _, round := range rightRounds() {
		for _, boot := range rightBoots() {
			for _, index := range []int{0, 1, 8, 14, 15} {
				checkParts(t, round*perRound+boot*perBoot+int64(index), parts{round, boot, index}, true)
			}
		}
	}
	for _, index := range rightIndices() {
		checkParts(t, int64(index), parts{0, 0, index}, true)
		checkParts(t, greatest-15+int64(index), parts{maxRound, maxBoot, index}, true)
	}
}

// L1: numbers that are no ballot.
func TestPartsOfNoBallots(t *testing.T) {
	for _, b := range noBallots() {
		checkParts(t, b, parts{}, false)
	}
	for n := int64(1); n < 5000; n++ {
		checkParts(t, -n, parts{}, false)
		checkParts(t, greatest+n, parts{}, false)
		checkParts(t, math.MinInt64+n, parts{}, false)
		checkParts(t, math.MaxInt64-n, parts{}, false)
	}
	for n := int64(1) << 54; n > 0; n *= 2 {
		checkParts(t, n, parts{}, false)
		checkParts(t, n+5, parts{}, false)
		checkParts(t, -n, parts{}, false)
	}
}

// L1, for all edges together, and for any number.
func TestPartsOfAny(t *testing.T) {
	for _, b := range edges() {
		checkPartsWords(t, b)
	}
	r := rand.New(rand.NewSource(15))
	none := 0
	for range 20000 {
		b := someNumber(r)
		checkPartsWords(t, b)
		if b < 0 || b > greatest {
			none++
		}
	}
	if none < 3000 {
		t.Errorf("only %d were no ballots", none)
	}
}

// L2: a boot or an index that is out of range is an error whatever b is, also where nothing is above b.
func TestNextBounds(t *testing.T) {
	for _, b := range edges() {
		for _, boot := range wrongBoots() {
			for _, index := range []int{0, 3, 15, 16, -1} {
				checkNext(t, b, boot, index, 0, api.ErrArg)
			}
		}
		for _, index := range wrongIndices() {
			for _, boot := range []int64{0, 3, maxBoot, maxBoot + 1, -1} {
				checkNext(t, b, boot, index, 0, api.ErrArg)
			}
		}
	}
}

// L2: below, at and above a ballot of the same boot and index, of each round.
func TestNextOfOwn(t *testing.T) {
	for _, round := range rightRounds() {
		if round == maxRound {
			continue
		}
		for _, boot := range rightBoots() {
			for _, index := range []int{0, 1, 8, 14, 15} {
				b := round*perRound + boot*perBoot + int64(index)
				checkNext(t, b-1, boot, index, b, api.OK)
				checkNext(t, b, boot, index, b+perRound, api.OK)
				checkNext(t, b+1, boot, index, b+perRound, api.OK)
			}
		}
	}
}

// L2: above the last ballot of a boot and an index there is none, but it is itself above all that is less.
func TestNextOfLastRound(t *testing.T) {
	for _, boot := range rightBoots() {
		for _, index := range rightIndices() {
			last := maxRound*perRound + boot*perBoot + int64(index)
			checkNext(t, last-perRound, boot, index, last, api.OK)
			checkNext(t, last-perRound+1, boot, index, last, api.OK)
			checkNext(t, last-1, boot, index, last, api.OK)
			for _, b := range []int64{last, last + 1, last + perRound - 1, last + perRound, last + perRound + 1, greatest, greatest + 1, 1 << 60, math.MaxInt64 - 1, math.MaxInt64} {
				checkNext(t, b, boot, index, 0, api.ErrTooMany)
			}
		}
	}
}

// L2: of a negative number, and below its own first ballot, it is the ballot of round 0.
func TestNextOfNegative(t *testing.T) {
	for _, boot := range rightBoots() {
		for _, index := range rightIndices() {
			first := boot*perBoot + int64(index)
			for _, b := range []int64{math.MinInt64, math.MinInt64 + 1, math.MinInt64 + first, -1 << 62, -greatest, -perRound - 1, -perRound, -perRound + 1, -first - 1, -16, -2, -1, first - 1} {
				checkNext(t, b, boot, index, first, api.OK)
			}
			checkNext(t, first, boot, index, first+perRound, api.OK)
		}
	}
}

// L2: a ballot of another boot or index is followed in its own round by a greater one, and in the next round by a lesser one.
func TestNextOfOthers(t *testing.T) {
	for _, round := range []int64{0, 1, 2, 1000, maxRound / 2, maxRound - 2, maxRound - 1} {
		for _, l := range []struct {
			boot, other   int64
			index, second int
		}{
			{5, 4, 3, 3}, {5, 4, 3, 15}, {5, 4, 3, 0}, {5, 5, 3, 2}, {5, 5, 3, 0}, {5, 0, 3, 3},
			{1, 0, 0, 15}, {maxBoot, maxBoot - 1, 0, 15}, {maxBoot, maxBoot, 15, 14}, {maxBoot, 0, 15, 0}, {maxBoot, 0, 0, 15}, {0, 0, 15, 14}, {0, 0, 1, 0},
		} {
			greater := parts{round, l.boot, l.index}.sum().Int64()
			lesser := parts{round, l.other, l.second}.sum().Int64()
			checkNext(t, lesser, l.boot, l.index, greater, api.OK)
			checkNext(t, greater, l.other, l.second, lesser+perRound, api.OK)
		}
	}
	checkNext(t, maxRound*perRound, 0, 1, maxRound*perRound+1, api.OK)
	checkNext(t, maxRound*perRound+1, 0, 0, 0, api.ErrTooMany)
	checkNext(t, greatest-1, maxBoot, 15, greatest, api.OK)
	checkNext(t, greatest-1, maxBoot, 14, 0, api.ErrTooMany)
	checkNext(t, greatest-16, maxBoot, 0, greatest-15, api.OK)
	checkNext(t, greatest-15, maxBoot-1, 15, 0, api.ErrTooMany)
}

// L2: round by round, from the first ballot on.
func TestNextRoundByRound(t *testing.T) {
	for _, l := range []parts{{0, 0, 0}, {0, 0, 15}, {0, 1, 2}, {0, maxBoot, 0}, {0, maxBoot, 15}} {
		b := int64(-1)
		for round := range int64(1000) {
			n, err := ballot.Next(b, l.boot, l.index)
			if want := round*perRound + l.boot*perBoot + int64(l.index); n != want || err != api.OK {
				t.Fatalf("Next(%d, %d, %d) = %d, %d, want %d", b, l.boot, l.index, n, int(err), want)
			}
			b = n
		}
	}
}

// L2, for all edges together, and for any numbers.
func TestNextOfAny(t *testing.T) {
	for _, b := range edges() {
		for _, boot := range []int64{-1, 0, 1, maxBoot / 2, maxBoot - 1, maxBoot, maxBoot + 1} {
			for _, index := range []int{-1, 0, 1, 14, 15, 16} {
				checkNextWords(t, b, boot, index)
			}
		}
	}
	r := rand.New(rand.NewSource(16))
	found := 0
	for range 20000 {
		b, p := someNumber(r), someParts(r)
		checkNextWords(t, b, p.boot, p.index)
		if _, err := ballot.Next(b, p.boot, p.index); err == api.OK {
			found++
		}
		checkNextWords(t, b, someNumber(r), p.index)
		checkNextWords(t, b, p.boot, int(someNumber(r)))
	}
	if found < 10000 {
		t.Errorf("only %d had one above", found)
	}
}

// Nothing is kept: the same call has the same result after others, among them such as have an error.
func TestKeepsNothing(t *testing.T) {
	for range 3 {
		checkMake(t, parts{1, 2, 3}, 16777251, api.OK)
		checkMake(t, parts{-1, 2, 3}, 0, api.ErrArg)
		checkParts(t, 16777251, parts{1, 2, 3}, true)
		checkParts(t, -1, parts{}, false)
		checkNext(t, 16777251, 2, 3, 33554467, api.OK)
		checkNext(t, 16777251, 2, 4, 16777252, api.OK)
		checkNext(t, math.MaxInt64, 2, 3, 0, api.ErrTooMany)
		checkNext(t, 0, -2, 3, 0, api.ErrArg)
	}
}
