package msg_test

import (
	"bytes"
	"math/rand"
	"slices"
	"testing"

	"locum/api"
	"locum/msg"
)

// Promises P5.2 and P5.3, for what Put, Get, Body, Of and Same return, without the layout of the bytes.

// put is the frame of a message, which must be there.
func put(t *testing.T, m api.Msg) []byte {
	t.Helper()
	b, err := msg.Put(m)
	if err != api.OK {
		t.Fatalf("Put(%+v): %v", m, err)
	}
	return b
}

// checkRoundTrip holds what is got of a message's bytes against the message, and what is put of that against the bytes.
func checkRoundTrip(t *testing.T, m api.Msg) {
	t.Helper()
	b := put(t, m)
	n, err := msg.Get(b)
	if err != api.OK || !alike(m, n) || !msg.Same(m, n) || !msg.Right(n) {
		t.Errorf("Get of Put(%+v) = %+v, %v", m, n, err)
	}
	if again := put(t, n); !bytes.Equal(again, b) {
		t.Errorf("Put of Get(%x) = %x", b, again)
	}
	kind, body, err := msg.Body(m)
	if err != api.OK {
		t.Fatalf("Body(%+v): %v", m, err)
	}
	n, err = msg.Of(kind, body)
	if err != api.OK || !alike(m, n) || !msg.Same(m, n) {
		t.Errorf("Of of Body(%+v) = %+v, %v", m, n, err)
	}
	if kindAgain, again, _ := msg.Body(n); kindAgain != kind || !bytes.Equal(again, body) {
		t.Errorf("Body of Of(%d, %x) = %d, %x", kind, body, kindAgain, again)
	}
}

func TestRoundTripOfFields(t *testing.T) {
	for _, c := range goodMessages() {
		checkRoundTrip(t, c.m)
	}
	r := rand.New(rand.NewSource(52))
	for range 5000 {
		checkRoundTrip(t, randomMessage(r))
	}
}

// Each kind, with and without a plan and an ID, and with texts of several lengths.
func TestRoundTripOfKinds(t *testing.T) {
	for kind := api.MsgKind(1); kind <= api.MaxKind; kind++ {
		for _, m := range bases() {
			m.Kind = kind
			checkRoundTrip(t, m)
			for _, p := range goodPlans() {
				m.HasPlan, m.Plan = true, p
				for _, id := range goodIDs() {
					m.ID = id
					checkRoundTrip(t, m)
				}
			}
		}
	}
}

func TestRoundTripOfTextsOfAllLengths(t *testing.T) {
	for _, m := range bases() {
		for size := range api.MaxSession + 1 {
			m.Session = filled(size)
			checkRoundTrip(t, m)
		}
		for size := range api.MaxPayload + 1 {
			m.Payload = filled(size)
			checkRoundTrip(t, m)
		}
	}
}

// Each subset of the fields at the greatest value, and the others at the least one.
func TestRoundTripOfLimits(t *testing.T) {
	for subset := range 1 << len(fields) {
		for _, m := range []api.Msg{least(), most()} {
			for i, f := range fields {
				n := f.least
				if subset>>i&1 == 1 {
					n = f.most
				}
				f.set(&m, n)
			}
			checkRoundTrip(t, m)
		}
	}
}

func TestSameFrameIfAndOnlyIfSame(t *testing.T) {
	r := rand.New(rand.NewSource(53))
	var l []api.Msg
	for _, c := range goodMessages() {
		l = append(l, c.m)
	}
	for range 100 {
		l = append(l, randomMessage(r))
	}
	written := make([][]byte, len(l))
	for i, m := range l {
		written[i] = put(t, m)
	}
	alikes := 0
	for i, m := range l {
		for j, n := range l[:i+1] {
			same := msg.Same(m, n)
			if same != bytes.Equal(written[i], written[j]) || same != msg.Same(n, m) {
				t.Errorf("Same is %t: %+v is %x, %+v is %x", same, m, written[i], n, written[j])
			}
			if same && i != j {
				alikes++
			}
		}
	}
	if alikes == 0 {
		t.Error("no two of the messages are the same")
	}
}

// change is b, changed at one or two places.
func change(r *rand.Rand, b []byte) []byte {
	for range 1 + r.Intn(2) {
		switch at := r.Intn(len(b)); r.Intn(4) {
		case 0:
			b[at] = byte(r.Intn(256))
		case 1:
			b[at] ^= 1 << r.Intn(8)
		case 2:
			b = slices.Insert(b, at, byte(r.Intn(256)))
		case 3:
			b = slices.Delete(b, at, at+1)
		}
	}
	return b
}

// Whatever body is a message's is written back; any other is none.
func TestChangedBodies(t *testing.T) {
	r := rand.New(rand.NewSource(54))
	const tries = 60000
	found := 0
	for range tries {
		_, b, err := msg.Body(randomMessage(r))
		if err != api.OK {
			t.Fatal(err)
		}
		kind := byte(r.Intn(22))
		b = change(r, b)
		m, err := msg.Of(kind, b)
		if err == api.OK {
			found++
			if kindAgain, again, _ := msg.Body(m); kindAgain != kind || !bytes.Equal(again, b) || !msg.Right(m) {
				t.Errorf("Body of Of(%d, %x) = %d, %x", kind, b, kindAgain, again)
			}
		} else if err != api.ErrMsg || !nothing(m) {
			t.Errorf("Of(%d, %x) = %+v, %v, want ErrMsg", kind, b, m, err)
		}
		// The same by way of a frame.
		n, errOfGet := msg.Get(framed(kind, b))
		if errOfGet != err || !alike(m, n) {
			t.Errorf("Get of the frame of %d, %x = %+v, %v, but Of %+v, %v", kind, b, n, errOfGet, m, err)
		}
	}
	if found == 0 || found == tries {
		t.Errorf("%d of all changed bodies are messages': neither case is tested", found)
	}
}

// Any bytes are read without a panic, and are no message but by the frame of one.
func TestNoise(t *testing.T) {
	r := rand.New(rand.NewSource(55))
	for range 20000 {
		b := make([]byte, r.Intn(60))
		r.Read(b)
		if m, err := msg.Get(b); err == api.OK || !nothing(m) {
			t.Errorf("Get(%x) = %+v, %v", b, m, err)
		}
		if m, err := msg.Of(byte(1+r.Intn(19)), b); err != api.ErrMsg || !nothing(m) {
			t.Errorf("Of(.., %x) = %+v, %v", b, m, err)
		}
	}
}

// P5.3: truncated anywhere, at its end or its beginning; what was truncated may follow in the memory.
func TestTruncatedFrames(t *testing.T) {
	r := rand.New(rand.NewSource(56))
	l := bases()
	for range 100 {
		l = append(l, randomMessage(r))
	}
	for _, m := range l {
		b := put(t, m)
		for size := range b {
			checkGet(t, "truncated", b[:size:size], api.ErrShort)
			checkGet(t, "truncated, and the rest behind", b[:size], api.ErrShort)
			if m, err := msg.Get(b[size+1:]); !nothing(m) || err == api.OK {
				t.Errorf("truncated at its beginning: Get(%x) = %+v, %v", b[size+1:], m, err)
			}
		}
	}
}

func TestFramesWithBytesBehind(t *testing.T) {
	r := rand.New(rand.NewSource(57))
	for range 1000 {
		b := put(t, randomMessage(r))
		checkGet(t, "with a frame behind", slices.Concat(b, put(t, randomMessage(r))), api.ErrMsg)
		for behind := range 256 {
			checkGet(t, "with a byte behind", append(slices.Clone(b), byte(behind)), api.ErrMsg)
		}
	}
}

// Each byte, changed to each other one.
func TestChangedFrames(t *testing.T) {
	for _, m := range []api.Msg{{Kind: 1}, full(), bare(), least()} {
		b := put(t, m)
		for at := range b {
			for mask := 1; mask < 256; mask++ {
				b[at] ^= byte(mask)
				switch {
				case at == 0:
					checkGet(t, "another mark", b, api.ErrMagic)
				case at == 2 || at == 3:
					// Another length: what is wrong depends on it.
					if n, err := msg.Get(b); !nothing(n) || err == api.OK {
						t.Errorf("another length: Get(%x) = %+v, %v", b, n, err)
					}
				default:
					checkGet(t, "another byte", b, api.ErrSum)
				}
				b[at] ^= byte(mask)
			}
		}
	}
	b := put(t, most())
	for at := range b {
		b[at] ^= byte(1 + at%255)
		if n, err := msg.Get(b); !nothing(n) || err == api.OK {
			t.Errorf("byte %d of a long frame changed: Get = %+v, %v", at, n, err)
		}
		b[at] ^= byte(1 + at%255)
	}
}
