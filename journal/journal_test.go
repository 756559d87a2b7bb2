package journal_test

import (
	"bytes"
	"fmt"
	"math"
	"slices"
	"strings"
	"testing"

	"locum/api"
	"locum/frame"
	"locum/journal"
)

// Promise P6.1: J1 to J4, one by one. J4 is asked after each call.

func TestNew(t *testing.T) {
	checkState(t, "New", journal.New(), state{})
	checkFuse(t, "New", journal.New(), none)
	checkOpen(t, "New", journal.New(), nil)
	j, other := journal.New(), journal.New()
	j.Fuse(3)
	appendAll(t, j, []record{{1, "a"}})
	j.Crash(100)
	checkState(t, "another one", other, state{})
	checkFuse(t, "another one", other, none)
}

// The bytes are written out, so that they do not depend on another layer's functions.
func TestBytes(t *testing.T) {
	const first, second = "\xf7\x01\x00\x05hello\x09\x77\x1f\xdf", "\xf7\x01\x00\x00\xfe\x83\xb3\x25"
	j := journal.New()
	checkErr(t, "Append", j.Append(1, []byte("hello")), api.OK)
	checkState(t, "Append", j, state{"", first, false})
	checkErr(t, "Sync", j.Sync(), api.OK)
	checkState(t, "Sync", j, state{first, "", false})
	checkErr(t, "Append", j.Append(1, nil), api.OK)
	checkState(t, "Append", j, state{first, second, false})
	j.Crash(2)
	checkState(t, "Crash", j, state{first + second[:2], "", true})
	checkOpen(t, "Open", j, []record{{1, "hello"}})
}

func TestExamples(t *testing.T) {
	a, b := record{1, "first"}, record{2, "second"}
	for _, c := range []struct {
		keep int
		want []record
	}{{0, []record{a}}, {100, []record{a, b}}, {3, []record{a}}} {
		j := start{[]record{a}, []record{b}, none, false}.journal(t)
		j.Crash(c.keep)
		checkOpen(t, fmt.Sprintf("Crash(%d)", c.keep), j, c.want)
	}
}

// J1, for each kind, and bodies of sizes up to the bound.
func TestAppend(t *testing.T) {
	j, want := journal.New(), ""
	for kind := range 256 {
		r := record{byte(kind), strings.Repeat("x", kind)}
		checkErr(t, "Append", j.Append(r.kind, []byte(r.body)), api.OK)
		want += framed(r)
		checkState(t, fmt.Sprintf("Append(%d, ..)", kind), j, state{"", want, false})
	}
	for _, size := range []int{0, 1, 255, 256, 257, api.MaxText, api.MaxBody - 1, api.MaxBody} {
		j := journal.New()
		r := record{2, strings.Repeat("y", size)}
		checkErr(t, "Append", j.Append(r.kind, []byte(r.body)), api.OK)
		checkState(t, fmt.Sprintf("Append of %d bytes", size), j, state{"", framed(r), false})
	}
	for _, none := range [][]byte{nil, {}, []byte("rest")[:0]} {
		j := journal.New()
		checkErr(t, "Append", j.Append(3, none), api.OK)
		checkState(t, "Append without a body", j, state{"", framed(record{3, ""}), false})
	}
}

// The error of layer 3 is ahead of any effect.
func TestAppendTooLong(t *testing.T) {
	for _, s := range starts() {
		for _, size := range []int{api.MaxBody + 1, 2 * api.MaxBody, 65536, 65537} {
			j, name := s.journal(t), fmt.Sprintf("%v, Append of %d bytes", s, size)
			checkErr(t, name, j.Append(1, make([]byte, size)), api.ErrTooMany)
			checkState(t, name, j, s.state())
			checkFuseOpened(t, name, j, s.fuse)
		}
	}
}

// effect is a call with an effect, and what it makes of a journal if the effect succeeds.
type effect struct {
	name  string
	call  func(*journal.Journal) api.Errno
	after func(state) state
}

func effects() []effect {
	r := record{7, "another"}
	return []effect{
		{"Append", func(j *journal.Journal) api.Errno { return j.Append(r.kind, []byte(r.body)) },
			func(s state) state { return state{s.synced, s.tail + framed(r), false} }},
		{"Sync", (*journal.Journal).Sync,
			func(s state) state { return state{s.synced + s.tail, "", false} }},
		{"Effect", (*journal.Journal).Effect,
			func(s state) state { return s }},
	}
}

// J1, and an effect: of a journal that is down, with a fuse of 0, with a greater one, and without one.
func TestEffects(t *testing.T) {
	for _, s := range starts() {
		for _, e := range effects() {
			j, name := s.journal(t), fmt.Sprintf("%v, %s", s, e.name)
			err, want, fuse := api.OK, e.after(s.state()), s.fuse
			switch {
			case s.down:
				err, want = api.ErrDown, s.state()
			case s.fuse == 0:
				err, want, fuse = api.ErrDown, s.state(), none
				want.down = true
			case s.fuse > 0:
				fuse--
			}
			checkErr(t, name, e.call(j), err)
			checkState(t, name, j, want)
			checkFuseOpened(t, name, j, fuse)
		}
	}
}

// A journal that is down stays so, and keeps its fuse, however often an effect is tried.
func TestEffectsWhileDown(t *testing.T) {
	for _, s := range starts() {
		if !s.down {
			continue
		}
		j := s.journal(t)
		for range 10 {
			for _, e := range effects() {
				checkErr(t, s.String()+", "+e.name, e.call(j), api.ErrDown)
				checkState(t, s.String()+", "+e.name, j, s.state())
			}
		}
		checkFuseOpened(t, s.String(), j, s.fuse)
	}
}

// J2.
func TestFuse(t *testing.T) {
	for _, s := range starts() {
		for _, n := range []int{math.MinInt, -100, -2, -1, 0, 1, 2, 3, many - 1, many, math.MaxInt} {
			j, name := s.journal(t), fmt.Sprintf("%v, Fuse(%d)", s, n)
			j.Fuse(n)
			checkState(t, name, j, s.state())
			checkFuseOpened(t, name, j, max(n, none))
		}
	}
}

// J2: also of a journal that is down already, and once more.
func TestCrash(t *testing.T) {
	for _, s := range starts() {
		for _, keep := range keeps(s.state().tail) {
			j, name := s.journal(t), fmt.Sprintf("%v, Crash(%d)", s, keep)
			want := state{s.state().synced + kept(s.state().tail, keep), "", true}
			j.Crash(keep)
			checkState(t, name, j, want)
			checkErr(t, name+", Effect", j.Effect(), api.ErrDown)
			checkErr(t, name+", Append", j.Append(1, nil), api.ErrDown)
			checkErr(t, name+", Sync", j.Sync(), api.ErrDown)
			checkState(t, name+", effects", j, want)
			j.Fuse(2)
			j.Crash(keep)
			checkState(t, name+", twice", j, want)
			// An effect that removes bytes, if there are such, tells of a fuse too.
			checkFuseOpened(t, name, j, none)
		}
	}
}

// other are bytes that do not begin with a frame.
func other() []string {
	whole, behind := framed(record{1, "whole"}), framed(record{2, "behind"})
	l := []string{
		"\x00", "\xf7", "\xf7\xf7", "\x00" + whole, "\xf7" + whole, whole[1:],
		"\xf7\x01\xff\xff" + behind, strings.Repeat("\xf7", 50), strings.Repeat("\x00", 50),
		"\xf7\x01\x20\x01" + strings.Repeat("\x00", 9000),
		whole[:4] + "spoil" + whole[9:] + behind, whole[:9] + "\x00\x00\x00\x00" + behind,
	}
	for size := 1; size < len(whole); size++ {
		l = append(l, whole[:size])
	}
	nested := framed(record{3, whole + behind})
	for size := 1; size < len(nested); size++ {
		l = append(l, nested[:size])
	}
	return l
}

// J3, with whole frames alone.
func TestOpen(t *testing.T) {
	for _, s := range starts() {
		j := s.journal(t)
		checkOpen(t, s.String(), j, s.synced)
		checkFuse(t, s.String(), j, s.fuse)
	}
}

// J3, with bytes to remove, which is an effect.
func TestOpenRemoves(t *testing.T) {
	for _, s := range starts() {
		for _, rest := range other() {
			j, name := s.journal(t), fmt.Sprintf("%v, and %.20x", s, rest)
			laid := s.state().synced + rest
			journal.Lay(j, []byte(laid))
			if s.fuse == 0 {
				kinds, bodies, err := j.Open()
				if kinds != nil || bodies != nil || err != api.ErrDown {
					t.Errorf("%s: Open = %x, %q, %v, want nil, nil, ErrDown", name, kinds, bodies, err)
				}
				checkState(t, name, j, state{laid, "", true})
				checkErr(t, name+", Effect", j.Effect(), api.ErrDown)
				checkOpen(t, name+", again", j, s.synced)
				checkFuse(t, name+", again", j, none)
				continue
			}
			checkOpen(t, name, j, s.synced)
			if s.fuse == none {
				checkFuse(t, name, j, none)
			} else {
				checkFuse(t, name, j, s.fuse-1)
			}
		}
	}
}

// J3, by what a crash leaves: a part of a frame, of each length.
func TestOpenOfPart(t *testing.T) {
	for _, c := range contents() {
		all := slices.Concat(c[0], c[1])
		for _, keep := range keeps(framed(c[1]...)) {
			for _, fuse := range []int{none, 0, 1, 3} {
				s := start{c[0], c[1], none, false}
				j, name := s.journal(t), fmt.Sprintf("%v, Crash(%d), Fuse(%d)", s, keep, fuse)
				j.Crash(keep)
				j.Fuse(fuse)
				before := stateOf(j).synced
				want := wholeOnes(all, len(before))
				removes := len(framed(want...)) < len(before)
				if removes && fuse == 0 {
					_, _, err := j.Open()
					checkErr(t, name, err, api.ErrDown)
					checkState(t, name, j, state{before, "", true})
					continue
				}
				checkOpen(t, name, j, want)
				if removes && fuse > 0 {
					fuse--
				}
				checkFuse(t, name, j, fuse)
			}
		}
	}
}

// What follows the last whole record is gone: a record that is appended then stands behind that one.
func TestAppendBehindRemoved(t *testing.T) {
	a, b, c := record{1, "a"}, record{2, "longer than c"}, record{3, "c"}
	for _, keep := range keeps(framed(b)) {
		j := start{[]record{a}, []record{b}, none, false}.journal(t)
		j.Crash(keep)
		kinds, bodies, _ := j.Open()
		want := append(recordsOf(kinds, bodies), c)
		appendAll(t, j, []record{c})
		checkErr(t, "Sync", j.Sync(), api.OK)
		j.Crash(0)
		checkOpen(t, fmt.Sprintf("Crash(%d), Open, Append", keep), j, want)
	}
}

// spoil changes all bytes of a list, including its spare capacity.
func spoil(b []byte) {
	b = b[:cap(b)]
	for i := range b {
		b[i] ^= 0x55
	}
}

// What was passed may be changed afterwards; it is not changed itself, including its spare capacity.
func TestPassed(t *testing.T) {
	a, b := record{1, "a body"}, record{2, "another one"}
	j := journal.New()
	var passed [][]byte
	for _, r := range []record{a, b} {
		memory := []byte(r.body + ", and what stands behind it")
		copied := bytes.Clone(memory)
		checkErr(t, "Append", j.Append(r.kind, memory[:len(r.body)]), api.OK)
		if !bytes.Equal(memory, copied) {
			t.Errorf("Append has changed %q into %q", copied, memory)
		}
		passed = append(passed, memory)
	}
	spoilAll := func() {
		for _, memory := range passed {
			spoil(memory)
		}
	}
	spoilAll()
	checkState(t, "bodies were changed", j, state{"", framed(a, b), false})
	checkErr(t, "Sync", j.Sync(), api.OK)
	spoilAll()
	checkState(t, "bodies were changed, behind Sync", j, state{framed(a, b), "", false})
	j.Crash(0)
	spoilAll()
	checkOpen(t, "bodies were changed, behind Crash", j, []record{a, b})
}

// What was returned may be changed: the journal's bytes stay as they were.
func TestReturned(t *testing.T) {
	for _, s := range starts() {
		j := s.journal(t)
		spoil(j.Synced())
		spoil(j.Tail())
		checkState(t, s.String()+", Synced and Tail were changed", j, s.state())
		kinds, bodies, _ := j.Open()
		for i, body := range bodies {
			spoil(body)
			for k, next := range bodies[i+1:] {
				if string(next) != s.synced[i+1+k].body {
					t.Errorf("%v: body %d shares bytes with body %d", s, i, i+1+k)
				}
			}
		}
		spoil(kinds)
		clear(bodies[:cap(bodies)])
		checkState(t, s.String()+", what Open returned was changed", j, state{s.state().synced, "", false})
		checkOpen(t, s.String()+", what Open returned was changed", j, s.synced)
	}
}

// What was returned stays as it was, whatever is called then.
func TestReturnedStays(t *testing.T) {
	for _, s := range starts() {
		j := s.journal(t)
		synced, tail := j.Synced(), j.Tail()
		j.Fuse(none)
		j.Crash(5)
		kinds, bodies, _ := j.Open()
		copied := recordsOf(slices.Clone(kinds), bodies)
		appendAll(t, j, []record{{9, "behind"}, {10, "what is there"}})
		checkErr(t, "Sync", j.Sync(), api.OK)
		appendAll(t, j, []record{{11, "and behind that"}})
		j.Crash(100)
		j.Open()
		if string(synced) != s.state().synced || string(tail) != s.state().tail {
			t.Errorf("%v: Synced has become %x, Tail %x", s, synced, tail)
		}
		if got := recordsOf(kinds, bodies); !slices.Equal(got, copied) {
			t.Errorf("%v: what Open returned has become %q, was %q", s, got, copied)
		}
	}
}

// The errors are those of layer 3, and no others.
func TestAppendLikePut(t *testing.T) {
	for _, size := range []int{0, 1, api.MaxBody - 1, api.MaxBody, api.MaxBody + 1, api.MaxBody + 2, 1 << 20} {
		b, want := frame.Put(1, make([]byte, size))
		j := journal.New()
		checkErr(t, fmt.Sprintf("Append of %d bytes", size), j.Append(1, make([]byte, size)), want)
		checkState(t, fmt.Sprintf("Append of %d bytes", size), j, state{"", string(b), false})
	}
}
