package plan_test

import (
	"bytes"
	"math/rand"
	"slices"
	"testing"

	"locum/api"
	"locum/plan"
)

// Promise P4.2, for what Put, Get and Same return, without the layout of the bytes.

// put are the bytes of a plan, which must be there.
func put(t *testing.T, p api.Plan) []byte {
	t.Helper()
	b, err := plan.Put(p)
	if err != api.OK {
		t.Fatalf("Put(%+v): %v", p, err)
	}
	return b
}

// checkRoundTrip holds what is got of a plan's bytes against the plan, and what is put of that against the bytes.
func checkRoundTrip(t *testing.T, p api.Plan) {
	t.Helper()
	b := put(t, p)
	q, err := plan.Get(b)
	if err != api.OK || !alike(p, q) || !plan.Same(p, q) || !plan.Right(q) {
		t.Errorf("Get of Put(%+v) = %+v, %v", p, q, err)
	}
	if again := put(t, q); !bytes.Equal(again, b) {
		t.Errorf("Put of Get(%x) = %x", b, again)
	}
}

// withLists is a plan whose lists have these lengths.
func withLists(p api.Plan, pen, changes int, r *rand.Rand) api.Plan {
	p.Pen, p.Changes = make([]int, pen), make([]int64, changes)
	for i := range p.Pen {
		p.Pen[i] = r.Intn(api.MaxPen + 1)
	}
	for i := range p.Changes {
		p.Changes[i] = r.Int63n(api.MaxTime + 1)
	}
	slices.Sort(p.Changes)
	return p
}

func TestRoundTripOfFields(t *testing.T) {
	for _, p := range goodPlans() {
		checkRoundTrip(t, p)
	}
	r := rand.New(rand.NewSource(42))
	for range 5000 {
		checkRoundTrip(t, randomPlan(r))
	}
}

func TestRoundTripOfListsOfAllLengths(t *testing.T) {
	r := rand.New(rand.NewSource(7))
	for _, p := range bases() {
		for pen := range api.MaxTargets + 1 {
			for changes := range api.MaxB + 1 {
				checkRoundTrip(t, withLists(p, pen, changes, r))
			}
		}
	}
}

// Each subset of the fields at the greatest value, and the others at the least one.
func TestRoundTripOfLimits(t *testing.T) {
	for subset := range 1 << len(fields) {
		p := api.Plan{Pen: []int{api.MaxPen, 0}, Changes: []int64{0, api.MaxTime}}
		for i, f := range fields {
			n := f.least
			if subset>>i&1 == 1 {
				n = f.most
			}
			f.set(&p, n)
		}
		checkRoundTrip(t, p)
	}
}

func TestSameBytesIfAndOnlyIfSame(t *testing.T) {
	r := rand.New(rand.NewSource(43))
	l := goodPlans()
	for range 200 {
		p := randomPlan(r)
		l = append(l, p, withLists(p, len(p.Pen), 0, r), withLists(p, 0, len(p.Changes), r))
	}
	written := make([][]byte, len(l))
	for i, p := range l {
		written[i] = put(t, p)
	}
	alikes := 0
	for i, p := range l {
		for j, q := range l[:i+1] {
			same := plan.Same(p, q)
			if same != bytes.Equal(written[i], written[j]) || same != plan.Same(q, p) {
				t.Errorf("Same is %t: %+v is %x, %+v is %x", same, p, written[i], q, written[j])
			}
			if same && i != j {
				alikes++
			}
		}
	}
	if alikes == 0 {
		t.Error("no two of the plans are the same")
	}
}

// Whatever bytes are got as a plan are put back; any others are no plan's.
func TestChangedBytes(t *testing.T) {
	r := rand.New(rand.NewSource(44))
	found := 0
	for range 60000 {
		b := put(t, randomPlan(r))
		if r.Intn(2) == 0 {
			b = put(t, withLists(full(), r.Intn(3), r.Intn(3), r))
		}
		for range 1 + r.Intn(2) {
			switch at := r.Intn(len(b)); r.Intn(4) {
			case 0:
				b[at] = byte(r.Intn(256))
			case 1:
				b[at] ^= 1 << r.Intn(8)
			case 2:
				b = slices.Insert(b, at, byte(r.Intn(256)))
			case 3:
				b = slices.Delete(b, at, at+1)
			}
		}
		p, err := plan.Get(b)
		if err == api.OK {
			found++
			if again := put(t, p); !bytes.Equal(again, b) || !plan.Right(p) {
				t.Errorf("Put of Get(%x) = %x", b, again)
			}
		} else if err != api.ErrPlan || !nothing(p) {
			t.Errorf("Get(%x) = %+v, %v, want ErrPlan", b, p, err)
		}
	}
	if found == 0 || found == 60000 {
		t.Errorf("%d of all changed bytes are plans: neither case is tested", found)
	}
}
