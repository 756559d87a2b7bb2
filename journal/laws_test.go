package journal_test

import (
	"fmt"
	"math"
	"math/rand"
	"slices"
	"strings"
	"testing"

	"locum/api"
	"locum/journal"
)

// Promises P6.2 to P6.4, and P6.1 for calls in any order.

// crash is a way to crash that keeps so many bytes of the tail.
type crash struct {
	name string
	do   func(j *journal.Journal, keep int)
}

// crashes are ways to crash; the journal must be up, and without a fuse.
var crashes = []crash{
	{"Crash", (*journal.Journal).Crash},
	{"Crash with a fuse", func(j *journal.Journal, keep int) {
		j.Fuse(3)
		j.Crash(keep)
	}},
	{"a fuse, and Crash", func(j *journal.Journal, keep int) {
		j.Fuse(0)
		j.Append(5, []byte("never there"))
		j.Crash(keep)
	}},
	{"Crash twice", func(j *journal.Journal, keep int) {
		j.Crash(keep)
		j.Crash(math.MaxInt)
	}},
	{"Crash, and what is tried while it is down", func(j *journal.Journal, keep int) {
		j.Crash(keep)
		j.Append(5, []byte("never there"))
		j.Sync()
	}},
	{"Crash, and another one within Open", func(j *journal.Journal, keep int) {
		j.Crash(keep)
		j.Fuse(0)
		j.Open()
		j.Crash(math.MaxInt)
	}},
}

// checkRecovery crashes a journal with synced records and others, which keeps each number of bytes.
func checkRecovery(t *testing.T, synced, later []record) {
	t.Helper()
	all := slices.Concat(synced, later)
	for _, keep := range keeps(framed(later...)) {
		for _, c := range crashes {
			name := fmt.Sprintf("%d synced, %d others, %s, %d kept", len(synced), len(later), c.name, keep)
			j := start{synced, later, none, false}.journal(t)
			c.do(j, keep)
			want := wholeOnes(all, len(framed(synced...))+len(kept(framed(later...), keep)))
			if len(want) < len(synced) {
				t.Fatalf("%s: the test asks for too little", name)
			}
			checkOpen(t, name, j, want)
			checkOpen(t, name+", P6.3", j, want)
			goOn(t, name, j, want)
		}
	}
}

// goOn is P6.2 once more, for a journal that has recovered these records.
func goOn(t *testing.T, name string, j *journal.Journal, records []record) {
	t.Helper()
	j.Fuse(none)
	r, lost := record{12, "synced"}, record{13, "lost"}
	appendAll(t, j, []record{r})
	checkErr(t, name+", Sync", j.Sync(), api.OK)
	appendAll(t, j, []record{lost})
	j.Crash(len(framed(lost)) - 1)
	want := append(slices.Clone(records), r)
	checkOpen(t, name+", once more", j, want)
	checkOpen(t, name+", once more, P6.3", j, want)
}

// P6.2 and P6.3.
func TestRecovery(t *testing.T) {
	for _, c := range contents() {
		checkRecovery(t, c[0], c[1])
		checkRecovery(t, c[1], c[0])
		checkRecovery(t, slices.Concat(c[0], c[1]), nil)
		checkRecovery(t, nil, slices.Concat(c[0], c[1]))
	}
}

// P6.2, for a body at the bound, and for parts of it.
func TestRecoveryOfLong(t *testing.T) {
	a, long, b := record{1, "a"}, record{2, strings.Repeat("\xf7\x01\x00\x00", api.MaxBody/4)}, record{3, "b"}
	size := len(framed(a, long, b))
	for keep := -1; keep <= size+1; keep++ {
		if keep > 40 && keep < size-40 && keep%97 != 0 {
			continue
		}
		j := start{[]record{a}, []record{a, long, b}, none, false}.journal(t)
		j.Crash(keep)
		checkOpen(t, fmt.Sprintf("Crash(%d)", keep), j, wholeOnes([]record{a, a, long, b}, len(framed(a))+max(keep, 0)))
	}
}

// P6.3, for a journal that is up, whose tail the first one has emptied; and for one that goes down within Open.
func TestOpenTwice(t *testing.T) {
	for _, s := range starts() {
		j := s.journal(t)
		checkOpen(t, s.String(), j, s.synced)
		checkOpen(t, s.String()+", twice", j, s.synced)
		checkFuse(t, s.String()+", twice", j, s.fuse)
	}
}

// P6.4: of these calls, in turn, exactly n succeed, and then none does, until Open.
func checkBurn(t *testing.T, name string, n int, turns []int) {
	t.Helper()
	j, l := journal.New(), effects()
	want := state{}
	j.Fuse(n)
	for i := range n + many {
		e := l[turns[i%len(turns)]]
		checkErr(t, name+", Append of too much", j.Append(1, make([]byte, api.MaxBody+1)), api.ErrTooMany)
		if i < n {
			checkErr(t, fmt.Sprintf("%s, %d: %s", name, i, e.name), e.call(j), api.OK)
			want = e.after(want)
		} else {
			checkErr(t, fmt.Sprintf("%s, %d: %s", name, i, e.name), e.call(j), api.ErrDown)
			want.down = true
		}
		checkState(t, name, j, want)
	}
	if _, _, err := j.Open(); err != api.OK {
		t.Errorf("%s: Open: %v", name, err)
	}
	checkState(t, name+", opened", j, state{want.synced, "", false})
	checkFuse(t, name+", opened", j, none)
}

func TestBurn(t *testing.T) {
	turns := [][]int{{0}, {1}, {2}, {0, 1}, {0, 1, 2}, {0, 0, 1, 2, 0}}
	for seed := range int64(10) {
		turns = append(turns, rand.New(rand.NewSource(seed)).Perm(3))
	}
	for _, l := range turns {
		for n := range 15 {
			checkBurn(t, fmt.Sprintf("Fuse(%d), %v", n, l), n, l)
		}
	}
}

// P6.4: what Open removes is an effect of those, and Open without bytes to remove is none.
func TestBurnInOpen(t *testing.T) {
	a, b := record{1, "a"}, record{2, "b"}
	for n := 1; n < 15; n++ {
		for _, keep := range []int{0, 1, 8} {
			j, name := start{[]record{a}, []record{b}, none, false}.journal(t), fmt.Sprintf("Fuse(%d), %d kept", n, keep)
			j.Crash(keep)
			j.Fuse(n)
			for range 3 {
				checkOpen(t, name, j, []record{a})
			}
			if keep > 0 {
				checkFuse(t, name, j, n-1)
			} else {
				checkFuse(t, name, j, n)
			}
		}
	}
}

// model is a journal as the document words it. It finds its records by what was appended, not by their bytes.
type model struct {
	state
	fuse    int
	records []record // those whose bytes are on the disk or in the tail, in order
}

func (m *model) effect() api.Errno {
	if !m.down && m.fuse != 0 {
		m.fuse = max(m.fuse-1, none)
		return api.OK
	}
	if !m.down {
		m.down, m.fuse = true, none
	}
	return api.ErrDown
}

func (m *model) append(r record) api.Errno {
	if len(r.body) > api.MaxBody {
		return api.ErrTooMany
	}
	err := m.effect()
	if err == api.OK {
		m.tail += framed(r)
		m.records = append(m.records, r)
	}
	return err
}

func (m *model) sync() api.Errno {
	err := m.effect()
	if err == api.OK {
		m.synced, m.tail = m.synced+m.tail, ""
	}
	return err
}

func (m *model) crash(keep int) {
	m.state = state{m.synced + kept(m.tail, keep), "", true}
	m.fuse = none
}

func (m *model) open() ([]record, api.Errno) {
	m.tail, m.down = "", false
	whole := wholeOnes(m.records, len(m.synced))
	if size := len(framed(whole...)); size < len(m.synced) {
		if err := m.effect(); err != api.OK {
			return nil, err
		}
		m.synced = m.synced[:size]
	}
	m.records = slices.Clone(whole)
	return whole, api.OK
}

// randomRecord is seldom one that is too long.
func randomRecord(r *rand.Rand) record {
	size := r.Intn(12)
	if r.Intn(20) == 0 {
		size = api.MaxBody - 1 + r.Intn(4)
	}
	body := make([]byte, size)
	r.Read(body)
	return record{byte(r.Intn(256)), string(body)}
}

// P6.1: calls in any order, each held against the model.
func TestAnyOrder(t *testing.T) {
	for seed := range int64(300) {
		r := rand.New(rand.NewSource(seed))
		j, m := journal.New(), &model{fuse: none}
		for i := range 100 {
			name := fmt.Sprintf("seed %d, call %d: ", seed, i)
			switch call := r.Intn(16); {
			case call < 6:
				record := randomRecord(r)
				name += fmt.Sprintf("Append(%d, %d bytes)", record.kind, len(record.body))
				checkErr(t, name, j.Append(record.kind, []byte(record.body)), m.append(record))
			case call < 9:
				name += "Sync"
				checkErr(t, name, j.Sync(), m.sync())
			case call < 10:
				name += "Effect"
				checkErr(t, name, j.Effect(), m.effect())
			case call < 12:
				n := r.Intn(8) - 2
				name += fmt.Sprintf("Fuse(%d)", n)
				j.Fuse(n)
				m.fuse = max(n, none)
			case call < 13:
				keep := r.Intn(len(m.tail)+10) - 5
				name += fmt.Sprintf("Crash(%d)", keep)
				j.Crash(keep)
				m.crash(keep)
			default:
				name += "Open"
				kinds, bodies, err := j.Open()
				want, wantErr := m.open()
				checkErr(t, name, err, wantErr)
				if got := recordsOf(kinds, bodies); !slices.Equal(got, want) {
					t.Errorf("%s = %.99q, want %.99q", name, got, want)
				}
			}
			checkState(t, name, j, m.state)
		}
	}
}
