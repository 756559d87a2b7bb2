package journal_test

import (
	"bytes"
	"fmt"
	"math"
	"slices"
	"testing"

	"locum/api"
	"locum/frame"
	"locum/journal"
)

// none is a fuse that is not there.
const none = -1

// many is how many effects tell that there is no fuse.
const many = 100

type record struct {
	kind byte
	body string
}

// framed is what a journal stores of some records.
func framed(records ...record) string {
	var all []byte
	for _, r := range records {
		b, err := frame.Put(r.kind, []byte(r.body))
		if err != api.OK {
			panic(err)
		}
		all = append(all, b...)
	}
	return string(all)
}

// recordsOf are records as Open returns them.
func recordsOf(kinds []byte, bodies [][]byte) []record {
	if len(kinds) != len(bodies) {
		panic("as many kinds as bodies")
	}
	var records []record
	for i, body := range bodies {
		records = append(records, record{kinds[i], string(body)})
	}
	return records
}

// state is what J4 tells of a journal.
type state struct {
	synced, tail string
	down         bool
}

func stateOf(j *journal.Journal) state {
	return state{string(j.Synced()), string(j.Tail()), j.Down()}
}

func checkState(t *testing.T, name string, j *journal.Journal, want state) {
	t.Helper()
	if got := stateOf(j); got != want {
		t.Errorf("%s: synced %.40x, tail %.40x, down %v, want %.40x, %.40x, %v", name, got.synced, got.tail, got.down, want.synced, want.tail, want.down)
	}
}

func checkErr(t *testing.T, name string, got, want api.Errno) {
	t.Helper()
	if got != want {
		t.Errorf("%s: %v, want %v", name, got, want)
	}
}

// checkOpen opens a journal, which must succeed with these records, and hold nothing else.
func checkOpen(t *testing.T, name string, j *journal.Journal, want []record) {
	t.Helper()
	kinds, bodies, err := j.Open()
	if got := recordsOf(kinds, bodies); !slices.Equal(got, want) || err != api.OK {
		t.Errorf("%s: Open = %.99q, %v, want %.99q", name, got, err, want)
	}
	checkState(t, name+", opened", j, state{framed(want...), "", false})
}

// checkFuse burns the fuse of a journal that is up: it must be the wanted one.
func checkFuse(t *testing.T, name string, j *journal.Journal, want int) {
	t.Helper()
	n := 0
	for n < many && j.Effect() == api.OK {
		n++
	}
	switch {
	case want == none || want >= many:
		if n < many || j.Down() {
			t.Errorf("%s: down after %d effects, want none", name, n)
		}
	case n != want || !j.Down():
		t.Errorf("%s: %d effects, then down is %v, want %d, true", name, n, j.Down(), want)
	}
}

// checkFuseOpened does the same for a journal that may be down, and has whole frames alone.
func checkFuseOpened(t *testing.T, name string, j *journal.Journal, want int) {
	t.Helper()
	if _, _, err := j.Open(); err != api.OK {
		t.Errorf("%s: Open without bytes to remove: %v", name, err)
	}
	checkFuse(t, name, j, want)
}

// start is a journal that a call is tried on: its records, its fuse, and whether it is down.
type start struct {
	synced, tail []record
	fuse         int
	down         bool
}

func (s start) String() string {
	return fmt.Sprintf("%d synced, %d in the tail, fuse %d, down %v", len(s.synced), len(s.tail), s.fuse, s.down)
}

func (s start) state() state { return state{framed(s.synced...), framed(s.tail...), s.down} }

// journal makes it, anew each time.
func (s start) journal(t *testing.T) *journal.Journal {
	t.Helper()
	j := journal.New()
	appendAll(t, j, s.synced)
	checkErr(t, "Sync", j.Sync(), api.OK)
	appendAll(t, j, s.tail)
	if s.down {
		j.Fuse(0)
		checkErr(t, "Effect with a fuse of 0", j.Effect(), api.ErrDown)
	}
	j.Fuse(s.fuse)
	checkState(t, s.String(), j, s.state())
	return j
}

func appendAll(t *testing.T, j *journal.Journal, records []record) {
	t.Helper()
	for _, r := range records {
		checkErr(t, "Append", j.Append(r.kind, []byte(r.body)), api.OK)
	}
}

// contents are synced records, and others behind them: none, one, and several of both; some look like frames.
func contents() [][2][]record {
	a, b, empty := record{1, "a"}, record{2, "bb"}, record{0, ""}
	like := record{0xf7, "\xf7\xf7\xf7"}
	nested := record{19, framed(a, b, empty)}
	long := record{0xff, string(bytes.Repeat([]byte("long"), 80))}
	return [][2][]record{
		{},
		{{a}, nil},
		{nil, {a}},
		{{a}, {b}},
		{{empty}, {empty}},
		{{a, b, empty}, {nested, like}},
		{{like, nested}, {a, nested, empty, b}},
		{{nested}, {long}},
	}
}

// starts are journals with all contents, each with several fuses and without one, up and down.
func starts() []start {
	var l []start
	for _, c := range contents() {
		for _, fuse := range []int{none, 0, 1, 2, 5} {
			for _, down := range []bool{false, true} {
				l = append(l, start{c[0], c[1], fuse, down})
			}
		}
	}
	return l
}

// keeps are how many bytes of a tail a crash is asked to keep: each number, fewer and more.
func keeps(tail string) []int {
	l := []int{math.MinInt, -2, -1, len(tail) + 1, len(tail) + 100, math.MaxInt}
	for keep := range len(tail) + 1 {
		l = append(l, keep)
	}
	return l
}

// kept is what a crash keeps of a tail.
func kept(tail string, keep int) string {
	switch {
	case keep < 0:
		return ""
	case keep > len(tail):
		return tail
	}
	return tail[:keep]
}

// wholeOnes are the first records, up to the one that is not complete within so many bytes.
func wholeOnes(records []record, size int) []record {
	for n, r := range records {
		size -= len(framed(r))
		if size < 0 {
			return records[:n]
		}
	}
	return records
}
