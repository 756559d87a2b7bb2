package plan_test

import (
	"bytes"
	"encoding/binary"
	"math"
	"math/rand"
	"slices"
	"strings"
	"testing"

	"locum/api"
	"locum/plan"
)

// Promise P4.1: P1 and P2 of the chapter.

// field is a field of a plan that is not a list, with its bounds as the document has them.
type field struct {
	name        string
	least, most int64
	set         func(p *api.Plan, n int64)
}

// fields are in the order of a plan's bytes.
var fields = []field{
	{"Epoch", 0, math.MaxInt64, func(p *api.Plan, n int64) { p.Epoch = n }},
	{"Target", -1, 15, func(p *api.Plan, n int64) { p.Target = int(n) }},
	{"Prev", -1, 15, func(p *api.Plan, n int64) { p.Prev = int(n) }},
	{"Spill", -1, 15, func(p *api.Plan, n int64) { p.Spill = int(n) }},
	{"Percent", 0, 100, func(p *api.Plan, n int64) { p.Percent = int(n) }},
	{"Stamp", 0, 1 << 40, func(p *api.Plan, n int64) { p.Stamp = n }},
	{"Since", 0, 1 << 40, func(p *api.Plan, n int64) { p.Since = n }},
	{"Ramped", 0, 1 << 40, func(p *api.Plan, n int64) { p.Ramped = n }},
	{"Up", 0, 0xffff, func(p *api.Plan, n int64) { p.Up = uint64(n) }},
	{"Sup", 0, 0xffff, func(p *api.Plan, n int64) { p.Sup = uint64(n) }},
}

// good are values that the field may have: its bounds, those next to them, and some between.
func (f field) good() []int64 {
	l := []int64{f.least, f.least + 1, f.least + 2, f.least + (f.most-f.least)/2, f.most - 2, f.most - 1, f.most}
	if f.name == "Up" || f.name == "Sup" {
		for bit := range 16 {
			l = append(l, 1<<bit, 0xffff^1<<bit)
		}
	}
	return l
}

// bad are values that it may not have: those next to its bounds, far ones, and those that are right but for higher bits.
func (f field) bad() []int64 {
	l := []int64{f.least - 1, f.least - 2, -1 << 31, -1 << 32, -1 << 40, math.MinInt64, math.MinInt64 + 1}
	if f.most == math.MaxInt64 {
		return l
	}
	l = append(l, f.most+1, f.most+2, 1<<41, 1<<48, 1<<62, math.MaxInt64)
	for _, high := range []int64{1 << 41, 1 << 44, 1 << 56, math.MinInt64} {
		l = append(l, high|f.most, high|1)
	}
	for bit := range 64 {
		if high := int64(1) << bit; high < 0 || high > f.most {
			l = append(l, high, high|1)
		}
	}
	return l
}

// list is a list of a plan, with its bounds as the document has them.
type list struct {
	name string
	size int
	most int64
	set  func(p *api.Plan, l []int64)
}

var lists = []list{
	{"Pen", 16, 1000000, func(p *api.Plan, l []int64) {
		p.Pen = nil
		for _, n := range l {
			p.Pen = append(p.Pen, int(n))
		}
	}},
	{"Changes", 8, 1 << 40, func(p *api.Plan, l []int64) { p.Changes = l }},
}

// good are lists that may be there: of all lengths, with bounds, equal numbers and ones that increase.
func (f list) good() [][]int64 {
	l := [][]int64{nil, {}, {0}, {1}, {f.most - 1}, {f.most}, {0, 0}, {0, 1}, {0, f.most}, {f.most, f.most}, {0, 0, 1, 1, f.most - 1, f.most, f.most}}
	for size := range f.size + 1 {
		up := make([]int64, size)
		for i := range up {
			up[i] = int64(i) * f.most / int64(f.size)
		}
		l = append(l, slices.Repeat([]int64{0}, size), slices.Repeat([]int64{7}, size), slices.Repeat([]int64{f.most}, size), up)
	}
	return l
}

// bad are lists that may not be there: too long ones, and ones with a number out of bounds, wherever it stands.
func (f list) bad() [][]int64 {
	var l [][]int64
	for _, size := range []int{f.size + 1, f.size + 2, 2 * f.size, 63, 64} {
		l = append(l, slices.Repeat([]int64{0}, size), slices.Repeat([]int64{f.most}, size))
	}
	for _, wrong := range []int64{-1, -2, -1 << 40, math.MinInt64, f.most + 1, f.most + 2, 2 * f.most, 1 << 41, 1<<41 | 1, math.MaxInt64} {
		for size := 1; size <= f.size; size++ {
			for at := range size {
				one := slices.Repeat([]int64{0}, at)
				one = append(one, wrong)
				l = append(l, append(one, slices.Repeat([]int64{f.most}, size-at-1)...))
			}
		}
		l = append(l, slices.Repeat([]int64{wrong}, f.size))
	}
	if f.name == "Changes" {
		l = append(l, decreasing()...)
	}
	return l
}

// decreasing are lists of numbers that may be there, but not in this order.
func decreasing() [][]int64 {
	l := [][]int64{{1, 0}, {1 << 40, 0}, {1 << 40, 1<<40 - 1}, {0, 2, 1, 3}}
	for size := 2; size <= 8; size++ {
		for at := 1; at < size; at++ {
			one := make([]int64, size)
			for i := range one {
				one[i] = int64(10 * i)
			}
			one[at] = one[at-1] - 1
			if at == 1 {
				one[0], one[1] = 1, 0
			}
			l = append(l, one)
		}
	}
	return l
}

// full is a plan of which each field differs from all others.
func full() api.Plan {
	return api.Plan{Epoch: 300, Target: 1, Prev: 4, Spill: 2, Percent: 20, Stamp: 1000, Since: 900, Ramped: 950, Up: 0x8007, Sup: 0x10, Pen: []int{0, 70, 1000000}, Changes: []int64{5, 5, 1 << 40}}
}

// most is the plan whose fields are all at their greatest value.
func most() api.Plan {
	return api.Plan{Epoch: math.MaxInt64, Target: 15, Prev: 15, Spill: 15, Percent: 100, Stamp: 1 << 40, Since: 1 << 40, Ramped: 1 << 40, Up: 0xffff, Sup: 0xffff, Pen: slices.Repeat([]int{1000000}, 16), Changes: slices.Repeat([]int64{1 << 40}, 8)}
}

// bases are valid plans, for one field of them to be changed.
func bases() []api.Plan {
	return []api.Plan{{}, {Target: -1, Prev: -1, Spill: -1}, full(), most()}
}

// goodPlans are valid: bases with one field at each of its good values.
func goodPlans() []api.Plan {
	l := bases()
	for _, p := range bases() {
		for _, f := range fields {
			for _, n := range f.good() {
				q := p
				f.set(&q, n)
				l = append(l, q)
			}
		}
		for _, f := range lists {
			for _, n := range f.good() {
				q := p
				f.set(&q, n)
				l = append(l, q)
			}
		}
	}
	return l
}

// badPlan is not valid, for the reason that its name tells.
type badPlan struct {
	name string
	p    api.Plan
}

// badPlans are bases with one field that is not valid.
func badPlans() []badPlan {
	var l []badPlan
	for _, p := range bases() {
		for _, f := range fields {
			for _, n := range f.bad() {
				q := p
				f.set(&q, n)
				l = append(l, badPlan{f.name, q})
			}
		}
		for _, f := range lists {
			for _, n := range f.bad() {
				q := p
				f.set(&q, n)
				l = append(l, badPlan{f.name, q})
			}
		}
	}
	return l
}

// randomPlan is valid; most of its fields say nothing that fits the others.
func randomPlan(r *rand.Rand) api.Plan {
	var p api.Plan
	for _, f := range fields {
		n := f.least + r.Int63n(min(f.most-f.least, math.MaxInt64-1)+1)
		if r.Intn(3) == 0 {
			n = f.good()[r.Intn(len(f.good()))]
		}
		f.set(&p, n)
	}
	for range r.Intn(17) {
		p.Pen = append(p.Pen, r.Intn(1000001))
	}
	for range r.Intn(9) {
		p.Changes = append(p.Changes, r.Int63n(1<<40+1))
	}
	slices.Sort(p.Changes)
	return p
}

// raw are the bytes of lists, be they too long for layer 1; Go's own library has the same bytes for an integer.
func raw(lists ...[]int64) []byte {
	var b []byte
	for _, l := range lists {
		b = binary.AppendVarint(b, int64(len(l)))
		for _, n := range l {
			b = binary.AppendVarint(b, n)
		}
	}
	return b
}

// parts are the three lists of a plan, as the document words them.
func parts(p api.Plan) (all, pen, changes []int64) {
	all = []int64{p.Epoch, int64(p.Target), int64(p.Prev), int64(p.Spill), int64(p.Percent), p.Stamp, p.Since, p.Ramped, int64(p.Up), int64(p.Sup)}
	for _, n := range p.Pen {
		pen = append(pen, int64(n))
	}
	return all, pen, slices.Clone(p.Changes)
}

// reference are the bytes of a plan, be it valid or not.
func reference(p api.Plan) []byte { return raw(parts(p)) }

// alike compares plans field by field.
func alike(p, q api.Plan) bool {
	return p.Epoch == q.Epoch && p.Target == q.Target && p.Prev == q.Prev && p.Spill == q.Spill && p.Percent == q.Percent &&
		p.Stamp == q.Stamp && p.Since == q.Since && p.Ramped == q.Ramped && p.Up == q.Up && p.Sup == q.Sup &&
		slices.Equal(p.Pen, q.Pen) && slices.Equal(p.Changes, q.Changes)
}

// nothing tells whether p has no field but zero ones.
func nothing(p api.Plan) bool { return alike(p, api.Plan{}) }

func TestRight(t *testing.T) {
	for _, p := range goodPlans() {
		if !plan.Right(p) {
			t.Errorf("Right(%+v) = false", p)
		}
	}
	r := rand.New(rand.NewSource(4))
	for range 2000 {
		if p := randomPlan(r); !plan.Right(p) {
			t.Errorf("Right(%+v) = false", p)
		}
	}
}

func TestNotRight(t *testing.T) {
	for _, c := range badPlans() {
		if plan.Right(c.p) {
			t.Errorf("%s: Right(%+v) = true", c.name, c.p)
		}
	}
}

// The values are written out, so that the reference is tested too.
func TestPutExamples(t *testing.T) {
	for _, c := range []struct {
		p    api.Plan
		want string
	}{
		{api.Plan{}, "\x14\x00\x00\x00\x00\x00\x00\x00\x00\x00\x00\x00\x00"},
		{api.Plan{Target: -1, Prev: -1, Spill: -1}, "\x14\x00\x01\x01\x01\x00\x00\x00\x00\x00\x00\x00\x00"},
		{full(), "\x14\xd8\x04\x02\x08\x04\x28\xd0\x0f\x88\x0e\xec\x0e\x8e\x80\x04\x20\x06\x00\x8c\x01\x80\x89\x7a\x06\x0a\x0a\x80\x80\x80\x80\x80\x40"},
		{
			api.Plan{Epoch: 3, Target: 1, Spill: 2, Percent: 20, Stamp: 9, Since: 9, Ramped: 9, Up: 7, Sup: 1, Pen: []int{0, 1000000}, Changes: []int64{5, 9}},
			"\x14\x06\x02\x00\x04\x28\x12\x12\x12\x0e\x02\x04\x00\x80\x89\x7a\x04\x0a\x12",
		},
		{
			most(),
			"\x14\xfe\xff\xff\xff\xff\xff\xff\xff\xff\x01\x1e\x1e\x1e\xc8\x01" + strings.Repeat("\x80\x80\x80\x80\x80\x40", 3) + "\xfe\xff\x07\xfe\xff\x07" +
				"\x20" + strings.Repeat("\x80\x89\x7a", 16) + "\x10" + strings.Repeat("\x80\x80\x80\x80\x80\x40", 8),
		},
	} {
		if b, err := plan.Put(c.p); string(b) != c.want || err != api.OK {
			t.Errorf("Put(%+v) = %x, %v, want %x", c.p, b, err, c.want)
		}
		if b := reference(c.p); string(b) != c.want {
			t.Errorf("the reference for %+v: %x, want %x", c.p, b, c.want)
		}
	}
}

func TestPut(t *testing.T) {
	for _, p := range goodPlans() {
		if b, err := plan.Put(p); !bytes.Equal(b, reference(p)) || err != api.OK {
			t.Errorf("Put(%+v) = %x, %v, want %x", p, b, err, reference(p))
		}
	}
}

func TestPutOfNoPlan(t *testing.T) {
	for _, c := range badPlans() {
		if b, err := plan.Put(c.p); b != nil || err != api.ErrPlan {
			t.Errorf("%s: Put(%+v) = %x, %v, want ErrPlan", c.name, c.p, b, err)
		}
	}
}

func TestGet(t *testing.T) {
	for _, p := range goodPlans() {
		if q, err := plan.Get(reference(p)); !alike(p, q) || err != api.OK {
			t.Errorf("Get(%x) = %+v, %v, want %+v", reference(p), q, err, p)
		}
	}
}

// checkNoPlan holds Get against bytes that are not those of a valid plan.
func checkNoPlan(t *testing.T, name string, b []byte) {
	t.Helper()
	if p, err := plan.Get(b); !nothing(p) || err != api.ErrPlan {
		t.Errorf("%s: Get(%x) = %+v, %v, want ErrPlan", name, b, p, err)
	}
}

func TestGetOfPlansThatAreNotValid(t *testing.T) {
	for _, c := range badPlans() {
		checkNoPlan(t, c.name, reference(c.p))
	}
}

func TestGetOfTruncatedBytes(t *testing.T) {
	checkNoPlan(t, "nil", nil)
	checkNoPlan(t, "no bytes", []byte{})
	for _, p := range append(bases(), api.Plan{Pen: []int{1}}, api.Plan{Changes: []int64{1}}) {
		b := reference(p)
		for size := range b {
			checkNoPlan(t, "truncated", b[:size])
			checkNoPlan(t, "truncated at its beginning", b[size+1:])
		}
	}
}

func TestGetWithBytesBehind(t *testing.T) {
	for _, p := range bases() {
		b := reference(p)
		for _, behind := range [][]byte{{0}, {1}, {0x80}, {0xff}, {0, 0}, raw([]int64{1}), raw(nil, nil), make([]byte, 40), b} {
			checkNoPlan(t, "with bytes behind", slices.Concat(b, behind))
			checkNoPlan(t, "with bytes ahead", slices.Concat(behind, b))
		}
	}
}

// The bytes of other lists than those of a plan: too few or too many of them, or of their numbers.
func TestGetOfOtherLists(t *testing.T) {
	for _, p := range bases() {
		all, pen, changes := parts(p)
		for size := range 70 {
			if size == 10 {
				continue
			}
			other := make([]int64, size)
			copy(other, all)
			checkNoPlan(t, "not ten numbers", raw(other, pen, changes))
		}
		for size := 17; size < 70; size++ {
			checkNoPlan(t, "too long a list Pen", raw(all, make([]int64, size), changes))
		}
		for size := 9; size < 70; size++ {
			checkNoPlan(t, "too long a list Changes", raw(all, pen, make([]int64, size)))
		}
		checkNoPlan(t, "one list", raw(all))
		checkNoPlan(t, "two lists", raw(all, pen))
		checkNoPlan(t, "four lists", raw(all, pen, changes, nil))
		checkNoPlan(t, "one list of everything", raw(slices.Concat(all, pen, changes)))
		checkNoPlan(t, "an empty list ahead", raw(nil, all, pen, changes))
		checkNoPlan(t, "the first list at the end", raw(pen, changes, all))
	}
	all, pen, changes := parts(full())
	checkNoPlan(t, "Pen and Changes the other way round", raw(all, changes, pen))
}

// Lists and numbers that layer 1 does not read.
func TestGetOfWhatWireDoesNotRead(t *testing.T) {
	long := [][]byte{{0x80, 0}, {0x81, 0}, {0xff, 0x80, 0}, slices.Concat(bytes.Repeat([]byte{0x80}, 9), []byte{2}), bytes.Repeat([]byte{0x80}, 10), bytes.Repeat([]byte{0xff}, 11)}
	for _, p := range bases() {
		b := reference(p)
		for at := 0; at < len(b); {
			n, size := binary.Varint(b[at:])
			padded := binary.AppendVarint(nil, n)
			padded[len(padded)-1] |= 0x80
			for _, other := range append(long, append(padded, 0)) {
				checkNoPlan(t, "a number that is not read", slices.Concat(b[:at], other, b[at+size:]))
			}
			at += size
		}
	}
	all, pen, changes := parts(full())
	for _, size := range []int64{-1, -2, -10, -1 << 32, math.MinInt64, 65, 66, 1 << 16, 1 << 32, 1<<32 + 10, math.MaxInt64} {
		first := binary.AppendVarint(nil, size)
		checkNoPlan(t, "a first list of this size", slices.Concat(first, raw(all, pen, changes)[1:]))
		checkNoPlan(t, "a list Pen of this size", slices.Concat(raw(all), first, raw(pen, changes)[1:]))
		checkNoPlan(t, "a list Changes of this size", slices.Concat(raw(all, pen), first, raw(changes)[1:]))
	}
}

func TestNames(t *testing.T) {
	ends := []int{-1, 0, 1, 2, 15}
	targets := []int{math.MinInt, -1000, -16, -2, -1, 0, 1, 2, 3, 14, 15, 16, 17, 255, math.MaxInt}
	for _, active := range ends {
		for _, prev := range ends {
			for _, spill := range ends {
				for _, percent := range []int{0, 1, 50, 98, 99, 100} {
					p := full()
					p.Target, p.Prev, p.Spill, p.Percent = active, prev, spill, percent
					named := []int{active, spill}
					if percent != 100 {
						named = append(named, prev)
					}
					for _, target := range targets {
						want := slices.Contains(named, target) && target != -1
						if got := plan.Names(p, target); got != want {
							t.Errorf("Names(Target %d, Prev %d, Spill %d, Percent %d; %d) = %t", active, prev, spill, percent, target, got)
						}
					}
				}
			}
		}
	}
}

// The other fields say nothing about which targets are named, nor does it matter whether the plan is valid.
func TestNamesByTheseFieldsAlone(t *testing.T) {
	for i, c := range []struct {
		p      api.Plan
		target int
		want   bool
	}{
		{api.Plan{Target: 1, Prev: 2, Spill: 3, Up: 0xffff, Sup: 0xffff}, 4, false},
		{api.Plan{Target: 1, Prev: 2, Spill: 3}, 1, true},
		{api.Plan{Target: 1, Prev: 2, Spill: 3}, 2, true},
		{api.Plan{Target: 1, Prev: 2, Spill: 3}, 3, true},
		{api.Plan{Target: 1, Prev: 2, Spill: 3, Percent: 100, Sup: 0xffff}, 1, true},
		{api.Plan{Target: 1, Prev: 2, Spill: 3, Percent: 100, Up: 0xffff}, 2, false},
		{api.Plan{Target: 1, Prev: 2, Spill: 3, Percent: 101}, 2, false},
		{api.Plan{Target: 1, Prev: 2, Spill: 3, Percent: math.MaxInt}, 2, false},
		{api.Plan{Target: 1, Prev: 2, Spill: 3, Percent: -1}, 2, true},
		{api.Plan{Target: 1, Prev: 2, Spill: 3, Percent: math.MinInt}, 2, true},
		{api.Plan{Target: 16, Prev: 17, Spill: 18}, 16, true},
		{api.Plan{Target: 16, Prev: 17, Spill: 18}, 17, true},
		{api.Plan{Target: 16, Prev: 17, Spill: 18}, 18, true},
		{api.Plan{Target: -2, Prev: -2, Spill: -2}, -2, false},
		{api.Plan{Target: math.MinInt, Prev: math.MinInt, Spill: math.MinInt}, math.MinInt, false},
		{api.Plan{Epoch: -1, Target: 1, Prev: -1, Spill: -1, Pen: []int{-1}, Changes: []int64{2, 1}}, 1, true},
		{api.Plan{}, 0, true},
		{api.Plan{}, 1, false},
	} {
		if got := plan.Names(c.p, c.target); got != c.want {
			t.Errorf("%d: Names(%+v, %d) = %t", i, c.p, c.target, got)
		}
	}
}

// checkSame holds Same, both ways round, against what it should report.
func checkSame(t *testing.T, name string, p, q api.Plan, want bool) {
	t.Helper()
	if plan.Same(p, q) != want || plan.Same(q, p) != want {
		t.Errorf("%s: Same(%+v, %+v) is not %t", name, p, q, want)
	}
}

// The values need not be valid, nor differ in the lowest bits.
func TestSameByEachField(t *testing.T) {
	for _, p := range bases() {
		for _, f := range fields {
			values := slices.Concat(f.good(), f.bad())
			slices.Sort(values)
			values = slices.Compact(values)
			for _, m := range values {
				for _, n := range values {
					a, b := p, p
					f.set(&a, m)
					f.set(&b, n)
					checkSame(t, f.name, a, b, m == n)
				}
			}
		}
	}
}

func TestSameByEachList(t *testing.T) {
	values := [][]int64{nil, {}, {0}, {1}, {-1}, {1 << 32}, {1<<32 | 1}, {math.MinInt64}, {math.MaxInt64}, {0, 0}, {0, 1}, {1, 0}, {1, 1}, {0, 0, 0}, {0, 1, 2}, {0, 1, 3}, {2, 1, 0}, make([]int64, 8), make([]int64, 9), make([]int64, 16), make([]int64, 17), make([]int64, 100)}
	for at := range 17 {
		one := make([]int64, 17)
		one[at] = 5
		values = append(values, one)
	}
	for _, p := range bases() {
		for _, f := range lists {
			for _, l := range values {
				for _, m := range values {
					a, b := p, p
					f.set(&a, slices.Clone(l))
					f.set(&b, slices.Clone(m))
					checkSame(t, f.name, a, b, slices.Equal(l, m))
				}
			}
		}
	}
	checkSame(t, "a number that is in the other list", api.Plan{Pen: []int{1}}, api.Plan{Changes: []int64{1}}, false)
	checkSame(t, "both lists, the other way round", api.Plan{Pen: []int{1}, Changes: []int64{2}}, api.Plan{Pen: []int{2}, Changes: []int64{1}}, false)
}

func TestSameNilAndEmpty(t *testing.T) {
	for _, p := range bases() {
		for _, pen := range [][]int{nil, {}, make([]int, 0, 9)} {
			for _, changes := range [][]int64{nil, {}, make([]int64, 0, 9)} {
				a, b := p, p
				a.Pen, a.Changes = nil, nil
				b.Pen, b.Changes = pen, changes
				checkSame(t, "nil or empty lists", a, b, true)
			}
		}
	}
}

// Fields that lie side by side are not taken for one another.
func TestSameWithFieldsExchanged(t *testing.T) {
	for i, f := range fields {
		for _, g := range fields[:i] {
			var a, b api.Plan
			f.set(&a, 1)
			g.set(&b, 1)
			checkSame(t, f.name+" and "+g.name, a, b, false)
		}
	}
}

// withSpare is p with numbers behind those of its lists in their memory.
func withSpare(p api.Plan) api.Plan {
	p.Pen = append(slices.Clone(p.Pen), 71, 72, 73)[:len(p.Pen)]
	p.Changes = append(slices.Clone(p.Changes), 81, 82, 83)[:len(p.Changes)]
	return p
}

// untouched tells whether q is what withSpare made of p.
func untouched(p, q api.Plan) bool {
	return alike(p, q) && slices.Equal(q.Pen[len(p.Pen):len(p.Pen)+3], []int{71, 72, 73}) && slices.Equal(q.Changes[len(p.Changes):len(p.Changes)+3], []int64{81, 82, 83})
}

// spoil writes over all of a list's memory, its spare capacity too.
func spoil[T byte | int | int64](l []T) {
	l = l[:cap(l)]
	for i := range l {
		l[i] ^= 0x5a
	}
}

// Rule P3: what is passed is neither changed nor kept, and what is returned is new memory.
func TestMemoryOfPlans(t *testing.T) {
	plans := goodPlans()
	for _, c := range badPlans() {
		plans = append(plans, c.p)
	}
	for _, p := range plans {
		passed, other := withSpare(p), withSpare(p)
		put, err := plan.Put(passed)
		again, _ := plan.Put(passed)
		right, same := plan.Right(passed), plan.Same(passed, other)
		plan.Names(passed, p.Target)
		if !untouched(p, passed) || !untouched(p, other) {
			t.Fatalf("what is passed is changed: %+v", p)
		}
		spoil(put)
		spoil(passed.Pen)
		spoil(passed.Changes)
		if err == api.OK && !bytes.Equal(again, reference(p)) {
			t.Errorf("what Put(%+v) returned changes with another result, or with what was passed", p)
		}
		fresh, _ := plan.Put(p)
		if err == api.OK && !bytes.Equal(fresh, reference(p)) || plan.Right(p) != right || plan.Same(p, other) != same {
			t.Errorf("something is kept from call to call: %+v", p)
		}
	}
}

func TestMemoryOfGet(t *testing.T) {
	for _, p := range goodPlans() {
		b := reference(p)
		passed := slices.Concat(b, []byte("spare"))[:len(b)]
		got, _ := plan.Get(passed)
		again, _ := plan.Get(passed)
		spoil(got.Pen)
		if !slices.Equal(got.Changes, p.Changes) {
			t.Errorf("the lists that Get(%x) returned share memory", b)
		}
		spoil(got.Changes)
		if string(passed[:len(b)+5]) != string(b)+"spare" {
			t.Errorf("Get(%x) changes what is passed, or shares its memory", b)
		}
		spoil(passed)
		if !alike(again, p) {
			t.Errorf("what Get(%x) returned changes with another result, or with what was passed", b)
		}
		if fresh, _ := plan.Get(b); !alike(fresh, p) {
			t.Errorf("Get(%x) keeps something from call to call", b)
		}
	}
}
