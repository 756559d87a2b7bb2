package ballot_test

import (
	"math"
	"math/rand"
	"testing"

	"locum/api"
	"locum/ballot"
)

// Promise P14.2.

// checkRound holds that Parts of Make returns the parts.
func checkRound(t *testing.T, p parts) {
	t.Helper()
	checkParts(t, ballotOf(t, p.round, p.boot, p.index), p, true)
}

// P14.2: Parts of Make returns the parts, at the edges.
func TestPartsOfMake(t *testing.T) {
	for _, round := range rightRounds() {
		for _, boot := range rightBoots() {
			for _, index := range rightIndices() {
				checkRound(t, parts{round, boot, index})
			}
		}
	}
}

// P14.2: Parts of Make returns the parts, for any.
func TestPartsOfMakeOfAny(t *testing.T) {
	r := rand.New(rand.NewSource(17))
	for range 500000 {
		checkRound(t, someParts(r))
	}
}

// P14.2: Make of Parts returns the ballot, so that each number is at most one ballot.
func TestMakeOfParts(t *testing.T) {
	r := rand.New(rand.NewSource(18))
	for range 500000 {
		b := r.Int63n(greatest + 1)
		round, boot, index, is := ballot.Parts(b)
		if !is || ballotOf(t, round, boot, index) != b {
			t.Fatalf("Parts(%d) = %d, %d, %d, %v", b, round, boot, index, is)
		}
	}
}

// P14.2: of a whole round no two ballots are alike, and none lies outside of the round.
func TestAllOfOneRound(t *testing.T) {
	for _, round := range []int64{0, maxRound} {
		seen := make([]bool, perRound)
		for boot := range int64(maxBoot + 1) {
			for index := range maxIndex + 1 {
				b, err := ballot.Make(round, boot, index)
				at := b - round*perRound
				if err != api.OK || at < 0 || at >= perRound || seen[at] {
					t.Fatalf("the ballot of %d, %d, %d is no new one of its round", round, boot, index)
				}
				seen[at] = true
			}
		}
	}
}

// P14.2: ballots of two boots, or of two indices, are never equal, of whatever rounds they are.
func TestNoTwoAlike(t *testing.T) {
	seen := map[int64]parts{}
	check := func(p parts) {
		b := ballotOf(t, p.round, p.boot, p.index)
		if before, is := seen[b]; is && before != p {
			t.Fatalf("%d is the ballot of %v and of %v", b, before, p)
		}
		seen[b] = p
	}
	for _, round := range []int64{0, 1, 2, 15, 16, 17, 1 << 20, 1<<20 + 1, maxRound / 2, maxRound - 1, maxRound} {
		for _, boot := range rightBoots() {
			for _, index := range rightIndices() {
				check(parts{round, boot, index})
			}
		}
	}
	r := rand.New(rand.NewSource(19))
	for range 200000 {
		check(someParts(r))
	}
}

// P14.2: two ballots of one boot and one index are equal in one round only, and that of the later round is greater than all of the earlier one.
func TestRoundsRise(t *testing.T) {
	r := rand.New(rand.NewSource(20))
	for range 100000 {
		p, q := someParts(r), someParts(r)
		if p.round > q.round {
			p, q = q, p
		}
		a, b := ballotOf(t, p.round, p.boot, p.index), ballotOf(t, q.round, q.boot, q.index)
		if p.round < q.round && a >= b || p.round == q.round && (a == b) != (p == q) {
			t.Fatalf("the ballots of %v and %v are %d and %d", p, q, a, b)
		}
	}
}

// checkLeast holds a ballot that Next returned against what P14.2 says of it, without the document's sum.
func checkLeast(t *testing.T, b, boot int64, index int, n int64) {
	t.Helper()
	round, hasBoot, hasIndex, is := ballot.Parts(n)
	if n <= b || !is || hasBoot != boot || hasIndex != index {
		t.Fatalf("Next(%d, %d, %d) = %d, which has %d, %d, %d, %v", b, boot, index, n, round, hasBoot, hasIndex, is)
	}
	if round > 0 && ballotOf(t, round-1, boot, index) > b {
		t.Fatalf("Next(%d, %d, %d) = %d, but the one a round below is greater too", b, boot, index, n)
	}
}

// checkLaw holds Next against P14.2, where there is no such ballot too.
func checkLaw(t *testing.T, b, boot int64, index int) {
	t.Helper()
	n, err := ballot.Next(b, boot, index)
	switch {
	case err == api.OK:
		checkLeast(t, b, boot, index, n)
	case err != api.ErrTooMany || ballotOf(t, maxRound, boot, index) > b:
		t.Fatalf("Next(%d, %d, %d) has the error %d", b, boot, index, int(err))
	}
}

// P14.2: Next is greater than b, has the boot and the index, and the one a round below is not greater, at the edges.
func TestNextIsLeast(t *testing.T) {
	for _, b := range edges() {
		for _, boot := range rightBoots() {
			for _, index := range rightIndices() {
				checkLaw(t, b, boot, index)
			}
		}
	}
}

// P14.2: so it is for any.
func TestNextIsLeastOfAny(t *testing.T) {
	r := rand.New(rand.NewSource(21))
	for range 300000 {
		p := someParts(r)
		checkLaw(t, someNumber(r), p.boot, p.index)
	}
}

// P14.2: no such ballot lies between, number by number: of all that follow b the first one with the boot and the index is Next.
func TestNothingBetween(t *testing.T) {
	for _, l := range []struct {
		boot  int64
		index int
	}{{0, 0}, {0, 1}, {3, 15}, {maxBoot, 15}} {
		for _, b := range []int64{-40, -1, 0, 1, 3*perBoot + 15, perRound - 1, perRound, 5*perRound + 77} {
			at := b + 1
			for {
				_, boot, index, is := ballot.Parts(at)
				if is && boot == l.boot && index == l.index {
					break
				}
				at++
			}
			checkNext(t, b, l.boot, l.index, at, api.OK)
		}
	}
}

// P14.2: of a number between b and Next of b, Next is the same, and of Next itself it is greater.
func TestNextBetween(t *testing.T) {
	found := 0
	r := rand.New(rand.NewSource(22))
	for range 100000 {
		b, p := someNumber(r)/2, someParts(r)
		n, err := ballot.Next(b, p.boot, p.index)
		if err != api.OK {
			continue
		}
		found++
		checkNext(t, b+(n-b)/2, p.boot, p.index, n, api.OK)
		checkNext(t, n-1, p.boot, p.index, n, api.OK)
		if later, err := ballot.Next(n, p.boot, p.index); err == api.OK && later <= n {
			t.Fatalf("Next(%d, %d, %d) = %d", n, p.boot, p.index, later)
		}
	}
	if found < 50000 {
		t.Errorf("only %d had one above", found)
	}
}

// P14.2: deciders that outbid each other, and boot anew at times, never have a ballot that was there.
func TestOutbidding(t *testing.T) {
	for seed := range int64(200) {
		r := rand.New(rand.NewSource(seed))
		boots := [maxIndex + 1]int64{}
		top := []int64{0, 0, math.MinInt64, (maxRound - 20) * perRound}[r.Intn(4)]
		for range 300 {
			index := r.Intn(maxIndex + 1)
			if r.Intn(5) == 0 {
				boots[index]++
			}
			n, err := ballot.Next(top, boots[index], index)
			if err == api.ErrTooMany {
				if top < maxRound*perRound {
					t.Fatalf("seed %d: nothing above %d", seed, top)
				}
				break
			}
			checkLeast(t, top, boots[index], index, n)
			top = n
		}
	}
}
