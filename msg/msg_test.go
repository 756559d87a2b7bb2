package msg_test

import (
	"bytes"
	"encoding/binary"
	"math"
	"math/rand"
	"slices"
	"testing"

	"locum/api"
	"locum/msg"
)

// Promise P5.1: M1 to M3 of the chapter.

func TestRight(t *testing.T) {
	for _, c := range goodMessages() {
		if !msg.Right(c.m) {
			t.Errorf("%s: Right(%+v) = false", c.name, c.m)
		}
	}
	r := rand.New(rand.NewSource(5))
	for range 2000 {
		if m := randomMessage(r); !msg.Right(m) {
			t.Errorf("Right(%+v) = false", m)
		}
	}
}

func TestNotRight(t *testing.T) {
	for _, c := range badMessages() {
		if msg.Right(c.m) {
			t.Errorf("%s: Right(%+v) = true", c.name, c.m)
		}
	}
}

// The bytes are written out, so that the references are tested too.
func TestExamples(t *testing.T) {
	for _, c := range []struct {
		m         api.Msg
		body, sum string
	}{
		{api.Msg{Kind: 1}, "\x14\x00\x00\x00\x00\x00\x00\x00\x00\x00\x00\x00\x00\x00", "\xdc\x24\x91\xfc"},
		{api.Msg{Kind: api.MsgProbe, From: 1, To: 2, Nonce: 7}, "\x14\x02\x04\x00\x00\x00\x0e\x00\x00\x00\x00\x00\x00\x00", "\xaa\xf4\x0d\xfa"},
		{
			api.Msg{Kind: 1, HasPlan: true},
			"\x14\x00\x00\x00\x00\x00\x00\x00\x00\x00\x02\x1a\x14\x00\x00\x00\x00\x00\x00\x00\x00\x00\x00\x00\x00\x00\x00\x00",
			"\x17\xa3\x14\x0d",
		},
		{
			full(),
			"\x14\x0e\x0a\xd8\x04\x07\x18\x80\x80\x80\x80\x80\x40\x87\x0e\x8a\x80\x04\x04\x02" +
				"\x42\x14\xd8\x04\x02\x08\x04\x28\xd0\x0f\x88\x0e\xec\x0e\x8e\x80\x04\x20\x06\x00\x8c\x01\x80\x89\x7a\x06\x0a\x0a\x80\x80\x80\x80\x80\x40" +
				"\x06\x00\x01\x80\x80\x80\x80\x80\x40\x0esession\x16the payload",
			"\x9e\xd3\xc6\xc2",
		},
		{
			api.Msg{Kind: api.MaxKind, From: 255, To: 255, Epoch: math.MaxInt64, Ballot: math.MinInt64, Accepted: math.MaxInt64, Nonce: math.MinInt64, Up: 0xffff, Code: 1000, ID: []int64{math.MaxInt64, math.MinInt64, 0}, Session: []byte{0}, Payload: []byte{0xf7, 0xff}},
			"\x14\xfe\x03\xfe\x03\xfe\xff\xff\xff\xff\xff\xff\xff\xff\x01\xff\xff\xff\xff\xff\xff\xff\xff\xff\x01\xfe\xff\xff\xff\xff\xff\xff\xff\xff\x01\xff\xff\xff\xff\xff\xff\xff\xff\xff\x01\x00\xfe\xff\x07\xd0\x0f\x00" +
				"\x06\xfe\xff\xff\xff\xff\xff\xff\xff\xff\x01\xff\xff\xff\xff\xff\xff\xff\xff\xff\x01\x00\x02\x00\x04\xf7\xff",
			"\x0b\xc2\xc5\x20",
		},
	} {
		kind, body, err := msg.Body(c.m)
		if kind != byte(c.m.Kind) || string(body) != c.body || err != api.OK {
			t.Errorf("Body(%+v) = %d, %x, %v, want %x", c.m, kind, body, err, c.body)
		}
		want := string([]byte{0xf7, byte(c.m.Kind), 0, byte(len(c.body))}) + c.body + c.sum
		if b, err := msg.Put(c.m); string(b) != want || err != api.OK {
			t.Errorf("Put(%+v) = %x, %v, want %x", c.m, b, err, want)
		}
		if m, err := msg.Of(byte(c.m.Kind), []byte(c.body)); !alike(m, c.m) || err != api.OK {
			t.Errorf("Of(%d, %x) = %+v, %v, want %+v", c.m.Kind, c.body, m, err, c.m)
		}
		if m, err := msg.Get([]byte(want)); !alike(m, c.m) || err != api.OK {
			t.Errorf("Get(%x) = %+v, %v, want %+v", want, m, err, c.m)
		}
		if b := bodyOf(c.m); string(b) != c.body {
			t.Errorf("the reference for the body of %+v: %x, want %x", c.m, b, c.body)
		}
		if b := frameOf(c.m); string(b) != want {
			t.Errorf("the reference for the frame of %+v: %x, want %x", c.m, b, want)
		}
	}
}

func TestBody(t *testing.T) {
	for _, c := range goodMessages() {
		if kind, b, err := msg.Body(c.m); int(kind) != int(c.m.Kind) || !bytes.Equal(b, bodyOf(c.m)) || err != api.OK {
			t.Errorf("%s: Body(%+v) = %d, %x, %v, want %x", c.name, c.m, kind, b, err, bodyOf(c.m))
		}
	}
}

func TestPut(t *testing.T) {
	for _, c := range goodMessages() {
		if b, err := msg.Put(c.m); !bytes.Equal(b, frameOf(c.m)) || err != api.OK {
			t.Errorf("%s: Put(%+v) = %x, %v, want %x", c.name, c.m, b, err, frameOf(c.m))
		}
	}
}

func TestBodyAndPutOfNoMessage(t *testing.T) {
	for _, c := range badMessages() {
		if kind, b, err := msg.Body(c.m); kind != 0 || b != nil || err != api.ErrMsg {
			t.Errorf("%s: Body(%+v) = %d, %x, %v, want ErrMsg", c.name, c.m, kind, b, err)
		}
		if b, err := msg.Put(c.m); b != nil || err != api.ErrMsg {
			t.Errorf("%s: Put(%+v) = %x, %v, want ErrMsg", c.name, c.m, b, err)
		}
	}
}

func TestOfAndGet(t *testing.T) {
	for _, c := range goodMessages() {
		if m, err := msg.Of(byte(c.m.Kind), bodyOf(c.m)); !alike(m, c.m) || err != api.OK {
			t.Errorf("%s: Of(%d, %x) = %+v, %v, want %+v", c.name, c.m.Kind, bodyOf(c.m), m, err, c.m)
		}
		if m, err := msg.Get(frameOf(c.m)); !alike(m, c.m) || err != api.OK {
			t.Errorf("%s: Get(%x) = %+v, %v, want %+v", c.name, frameOf(c.m), m, err, c.m)
		}
	}
}

// Each kind that a frame can have, with the same valid bodies.
func TestOfAndGetOfEachKind(t *testing.T) {
	for _, m := range bases() {
		for kind := range 256 {
			if kind < 1 || kind > 19 {
				checkNoMessage(t, "no message's kind", byte(kind), bodyOf(m))
				continue
			}
			m.Kind = api.MsgKind(kind)
			if n, err := msg.Of(byte(kind), bodyOf(m)); !alike(n, m) || err != api.OK {
				t.Errorf("Of(%d, %x) = %+v, %v, want %+v", kind, bodyOf(m), n, err, m)
			}
			if n, err := msg.Get(framed(byte(kind), bodyOf(m))); !alike(n, m) || err != api.OK {
				t.Errorf("Get of kind %d: %+v, %v, want %+v", kind, n, err, m)
			}
		}
	}
}

// checkNoMessage holds Of, and Get of the frame, against a kind and a body that are no message's.
func checkNoMessage(t *testing.T, name string, kind byte, body []byte) {
	t.Helper()
	if m, err := msg.Of(kind, body); !nothing(m) || err != api.ErrMsg {
		t.Errorf("%s: Of(%d, %x) = %+v, %v, want ErrMsg", name, kind, body, m, err)
	}
	if len(body) > api.MaxBody {
		return // no frame has it
	}
	if m, err := msg.Get(framed(kind, body)); !nothing(m) || err != api.ErrMsg {
		t.Errorf("%s: Get of the frame of %d, %x = %+v, %v, want ErrMsg", name, kind, body, m, err)
	}
}

// checkNoBody does so for a kind that a message can have; another one for bodies of another length.
func checkNoBody(t *testing.T, name string, body []byte) {
	t.Helper()
	checkNoMessage(t, name, byte(1+len(body)%19), body)
}

func TestOfMessagesThatAreNotValid(t *testing.T) {
	for _, c := range badBodies() {
		checkNoMessage(t, c.name, byte(c.m.Kind), bodyOf(c.m))
	}
}

func TestOfTruncatedBodies(t *testing.T) {
	for kind := range 256 {
		checkNoMessage(t, "nil", byte(kind), nil)
		checkNoMessage(t, "no bytes", byte(kind), []byte{})
	}
	for _, m := range bases() {
		b := bodyOf(m)
		for size := range b {
			checkNoBody(t, "truncated", b[:size:size])
			// What follows in the memory is the rest of the body: it is not there, all the same.
			checkNoBody(t, "truncated, and the rest behind", b[:size])
		}
	}
}

func TestOfBodiesWithBytesBehind(t *testing.T) {
	for _, m := range bases() {
		b := bodyOf(m)
		for _, behind := range [][]byte{{0}, {1}, {0x14}, {0x80}, {0xf7}, {0xff}, {0, 0}, make([]byte, 40), rawText([]byte("more")), b} {
			checkNoBody(t, "with bytes behind", slices.Concat(b, behind))
		}
		for _, ahead := range [][]byte{{0}, {1}, {0x80}, {0xff}, {0, 0}, rawText([]byte("more"))} {
			checkNoBody(t, "with bytes ahead", slices.Concat(ahead, b))
		}
	}
}

func TestOfOtherFirstLists(t *testing.T) {
	for _, m := range bases() {
		p := partsOf(m)
		for size := range 300 {
			if size == 10 {
				continue
			}
			other := make([]int64, size)
			copy(other, p.numbers())
			checkNoBody(t, "not ten numbers", slices.Concat(rawList(other), p.rest()))
			if size > 0 {
				// The number of HasPlan is the last one, as it would be among ten.
				clear(other[min(size, 9):])
				other[size-1] = p.hasPlan
				checkNoBody(t, "not ten numbers, and HasPlan", slices.Concat(rawList(other), p.rest()))
			}
		}
		checkNoBody(t, "no first list", p.rest())
		checkNoBody(t, "two first lists", slices.Concat(rawList(p.numbers()), p.body()))
	}
}

// A tenth number that is neither 0 nor 1, with a plan's text and without one.
func TestOfTenthNumbers(t *testing.T) {
	numbers := []int64{-1, -2, -3, -256, -1 << 32, math.MinInt64, math.MinInt64 + 1, math.MaxInt64}
	for n := range int64(260) {
		numbers = append(numbers, n+2)
	}
	for bit := 8; bit < 63; bit++ {
		numbers = append(numbers, 1<<bit, 1<<bit|1)
	}
	for _, m := range []api.Msg{{Kind: 1}, {Kind: 1, HasPlan: true}, full(), bare(), most()} {
		for _, n := range numbers {
			p := partsOf(m)
			p.hasPlan = n
			checkNoBody(t, "neither 0 nor 1", p.body())
		}
	}
}

func TestOfPlansOutOfPlace(t *testing.T) {
	for _, c := range goodMessages() {
		p := partsOf(c.m)
		p.hasPlan = 1 - p.hasPlan
		checkNoBody(t, "a plan too many, or one too few", p.body())
	}
	for _, q := range goodPlans() {
		text := rawText(rawPlan(q))
		for _, m := range bases() {
			p := partsOf(m)
			b := rawList(p.numbers())
			p.planText = nil
			checkNoBody(t, "one plan more", slices.Concat(b, partsOf(m).planText, text, p.rest()))
			checkNoBody(t, "a plan at the end", slices.Concat(b, p.rest(), text))
			checkNoBody(t, "a plan behind the ID", slices.Concat(b, rawList(p.id), text, rawText(p.session), rawText(p.payload)))
		}
	}
}

// A text in the place of a plan that is no plan's bytes.
func TestOfTextsThatAreNoPlan(t *testing.T) {
	check := func(name string, text []byte) {
		t.Helper()
		for _, m := range []api.Msg{{Kind: 1, HasPlan: true}, full()} {
			p := partsOf(m)
			p.planText = rawText(text)
			checkNoBody(t, name, p.body())
		}
	}
	check("no text", nil)
	for size := range 70 {
		check("zeros", make([]byte, size))
		check("any bytes", filled(size))
	}
	for _, size := range []int{4095, 4096, 4097, 5000, 8000} {
		check("a long text", append(rawPlan(fullPlan()), make([]byte, size-len(rawPlan(fullPlan())))...))
	}
	for _, q := range goodPlans() {
		b := rawPlan(q)
		for size := range b {
			check("a truncated plan", b[:size])
		}
		for _, other := range [][]byte{{0}, {1}, {0x80}, b} {
			check("a plan with bytes behind", slices.Concat(b, other))
			check("a plan with bytes ahead", slices.Concat(other, b))
		}
		check("a plan that is a text within the text", rawText(b))
	}
	for _, q := range badPlans() {
		check("a plan that is not valid", rawPlan(q))
	}
	// A plan without a text around it, and one whose text is a list.
	for _, m := range []api.Msg{{Kind: 1, HasPlan: true}, full(), most()} {
		p := partsOf(m)
		p.planText = rawPlan(m.Plan)
		checkNoBody(t, "a plan that is no text", p.body())
		var list []int64
		for _, c := range rawPlan(m.Plan) {
			list = append(list, int64(c))
		}
		p.planText = rawList(list)
		if !bytes.Equal(p.planText, partsOf(m).planText) {
			checkNoBody(t, "a plan that is a list", p.body())
		}
	}
}

func TestOfOtherIDsAndTexts(t *testing.T) {
	for _, m := range bases() {
		for size := range 300 {
			p := partsOf(m)
			p.id = make([]int64, size)
			if size != 0 && size != 3 {
				checkNoBody(t, "an ID of neither no numbers nor three", p.body())
			}
		}
		for size := range 5000 {
			p := partsOf(m)
			p.session = make([]byte, size)
			if size > 64 {
				checkNoBody(t, "too long a session", p.body())
			}
			p = partsOf(m)
			p.payload = make([]byte, size)
			if size > 1024 {
				checkNoBody(t, "too long a payload", p.body())
			}
		}
		p := partsOf(m)
		b := slices.Concat(rawList(p.numbers()), p.planText)
		checkNoBody(t, "no ID", slices.Concat(b, rawText(p.session), rawText(p.payload)))
		checkNoBody(t, "no payload", slices.Concat(b, rawList(p.id), rawText(p.session)))
		checkNoBody(t, "no texts", slices.Concat(b, rawList(p.id)))
		checkNoBody(t, "three texts", slices.Concat(p.body(), rawText(nil)))
	}
}

// piece is a part of a body that is a number, or the bytes of a text.
type piece struct {
	b        []byte
	isNumber bool
}

// pieces are those of a body, in their order: the numbers one by one.
func pieces(m api.Msg) []piece {
	var l []piece
	number := func(n int64) { l = append(l, piece{binary.AppendVarint(nil, n), true}) }
	list := func(numbers []int64) {
		number(int64(len(numbers)))
		for _, n := range numbers {
			number(n)
		}
	}
	text := func(s []byte) {
		number(int64(len(s)))
		l = append(l, piece{s, false})
	}
	p := partsOf(m)
	list(p.numbers())
	if m.HasPlan {
		text(rawPlan(m.Plan))
	}
	list(p.id)
	text(p.session)
	text(p.payload)
	return l
}

// joined are all pieces, with other bytes for that at a place.
func joined(l []piece, at int, other []byte) []byte {
	var b []byte
	for i, p := range l {
		if i == at {
			b = append(b, other...)
		} else {
			b = append(b, p.b...)
		}
	}
	return b
}

// padded are the digits of a number, and a further one that is 0.
func padded(number []byte) []byte {
	b := slices.Clone(number)
	b[len(b)-1] |= 0x80
	return append(b, 0)
}

// Each number, lengths among them, in ways that layer 1 does not read.
func TestOfNumbersThatWireDoesNotRead(t *testing.T) {
	long := [][]byte{{0x80, 0}, {0x81, 0}, {0xff, 0x80, 0}, append(bytes.Repeat([]byte{0x80}, 9), 2), bytes.Repeat([]byte{0x80}, 10), bytes.Repeat([]byte{0xff}, 11)}
	for _, m := range bases() {
		l := pieces(m)
		if !bytes.Equal(joined(l, -1, nil), bodyOf(m)) {
			t.Fatalf("the pieces of %+v are not its body", m)
		}
		for at, p := range l {
			if !p.isNumber {
				continue
			}
			for _, other := range append(long, padded(p.b)) {
				checkNoBody(t, "a number that is not read", joined(l, at, other))
			}
		}
	}
	// And each number of a plan, in its text.
	for _, q := range goodPlans() {
		b := rawPlan(q)
		for at := 0; at < len(b); {
			_, size := binary.Varint(b[at:])
			for _, other := range append(long, padded(b[at:at+size])) {
				p := partsOf(full())
				p.planText = rawText(slices.Concat(b[:at], other, b[at+size:]))
				checkNoBody(t, "a number of a plan that is not read", p.body())
			}
			at += size
		}
	}
}

// Lengths of lists and texts that layer 1 does not read, or that are not theirs.
func TestOfOtherLengths(t *testing.T) {
	lengths := []int64{-1, -2, -3, -10, -64, -1 << 32, math.MinInt64, 65, 66, 4096, 4097, 1 << 16, 1 << 32, 1<<32 + 3, 1<<32 + 10, math.MaxInt64}
	for _, m := range bases() {
		p := partsOf(m)
		first, id := rawList(p.numbers())[1:], rawList(p.id)[1:]
		for _, n := range lengths {
			size := binary.AppendVarint(nil, n)
			ahead := rawList(p.numbers())
			checkNoBody(t, "a first list of this length", slices.Concat(size, first, p.rest()))
			if m.HasPlan {
				checkNoBody(t, "a plan's text of this length", slices.Concat(ahead, size, rawPlan(m.Plan), rawList(p.id), rawText(p.session), rawText(p.payload)))
			}
			ahead = append(ahead, p.planText...)
			checkNoBody(t, "an ID of this length", slices.Concat(ahead, size, id, rawText(p.session), rawText(p.payload)))
			ahead = append(ahead, rawList(p.id)...)
			checkNoBody(t, "a session of this length", slices.Concat(ahead, size, p.session, rawText(p.payload)))
			ahead = append(ahead, rawText(p.session)...)
			checkNoBody(t, "a payload of this length", slices.Concat(ahead, size, p.payload))
		}
	}
}

// checkGet holds Get against bytes that are no message's frame.
func checkGet(t *testing.T, name string, b []byte, want api.Errno) {
	t.Helper()
	if m, err := msg.Get(b); !nothing(m) || err != want {
		t.Errorf("%s: Get(%x) = %+v, %v, want %v", name, b, m, err, want)
	}
}

// Bytes that hold no frame at their beginning, also if a message's frame is behind.
func TestGetOfNoFrame(t *testing.T) {
	checkGet(t, "nil", nil, api.ErrShort)
	checkGet(t, "no bytes", []byte{}, api.ErrShort)
	for _, m := range bases() {
		b := frameOf(m)
		for size := range 8 {
			checkGet(t, "fewer than 8 bytes", b[:size], api.ErrShort)
		}
		for size := 8; size < len(b); size++ {
			checkGet(t, "a frame that is not complete", b[:size], api.ErrShort)
		}
		for first := range 256 {
			if first != 0xf7 {
				checkGet(t, "no mark", append([]byte{byte(first)}, b[1:]...), api.ErrMagic)
				checkGet(t, "a byte ahead of the mark", append([]byte{byte(first)}, b...), api.ErrMagic)
			}
		}
		checkGet(t, "no mark, and short", []byte{0, 1, 0}, api.ErrMagic)
		for _, behind := range [][]byte{nil, {0}, b} {
			for at := 1; at <= 4; at++ {
				changed := slices.Clone(b)
				changed[len(b)-at] ^= 0x20
				checkGet(t, "a sum that is not right", append(changed, behind...), api.ErrSum)
			}
		}
	}
	for _, size := range []int{8193, 8194, 16384, 65535} {
		for _, start := range [][]byte{nil, bodyOf(full())} {
			body := append(start, make([]byte, size-len(start))...)
			checkGet(t, "too long a body", framed(1, body), api.ErrTooMany)
			checkGet(t, "too long a body, not complete", framed(1, body)[:8], api.ErrTooMany)
		}
	}
}

func TestGetOfFramesWithBytesBehind(t *testing.T) {
	for _, m := range bases() {
		b := frameOf(m)
		for _, behind := range [][]byte{{0}, {0xf7}, {0xff}, {0, 0, 0, 0}, b[:8], b, frameOf(bare())} {
			checkGet(t, "with bytes behind", slices.Concat(b, behind), api.ErrMsg)
			checkGet(t, "no message's kind, with bytes behind", slices.Concat(framed(0, bodyOf(m)), behind), api.ErrMsg)
			checkGet(t, "no message's body, with bytes behind", slices.Concat(framed(1, []byte("body")), behind), api.ErrMsg)
		}
	}
}

func TestGetOfOtherFrames(t *testing.T) {
	for kind := range 256 {
		for _, body := range [][]byte{nil, {0}, []byte("hello"), frameOf(full()), make([]byte, 8192), append(bodyOf(full()), make([]byte, 8000)...)} {
			checkGet(t, "no message's body", framed(byte(kind), body), api.ErrMsg)
		}
	}
}

// checkSame holds Same, both ways round, against what it should report.
func checkSame(t *testing.T, name string, m, n api.Msg, want bool) {
	t.Helper()
	if msg.Same(m, n) != want || msg.Same(n, m) != want {
		t.Errorf("%s: Same(%+v, %+v) is not %t", name, m, n, want)
	}
}

// The values need not be valid, nor differ in the lowest bits.
func TestSameByEachField(t *testing.T) {
	for _, m := range bases() {
		for _, f := range append(fields, kindField) {
			values := slices.Concat(f.good(), f.bad())
			slices.Sort(values)
			values = slices.Compact(values)
			for _, one := range values {
				for _, other := range values {
					a, b := m, m
					f.set(&a, one)
					f.set(&b, other)
					checkSame(t, f.name, a, b, one == other)
				}
			}
		}
	}
}

func TestSameByPlan(t *testing.T) {
	for _, m := range bases() {
		other := m
		other.HasPlan = !m.HasPlan
		checkSame(t, "HasPlan", m, other, false)
		for _, f := range planFields {
			for _, one := range []int64{0, f.right, f.wrong} {
				for _, other := range []int64{0, f.right, f.wrong} {
					a, b := m, m
					f.set(&a.Plan, one)
					f.set(&b.Plan, other)
					checkSame(t, "the plan's "+f.name, a, b, one == other)
				}
			}
		}
		for _, p := range append(goodPlans(), badPlans()...) {
			for _, q := range append(goodPlans(), badPlans()...) {
				a, b := m, m
				a.Plan, b.Plan = p, q
				checkSame(t, "Plan", a, b, samePlans(p, q))
			}
		}
	}
}

func TestSameByLists(t *testing.T) {
	ids := [][]int64{nil, {}, {0}, {1}, {1 << 32}, {1<<32 | 1}, {0, 0}, {0, 0, 0}, {1, 0, 0}, {0, 1, 0}, {0, 0, 1}, {0, 0, 1 << 32}, {0, 0, math.MinInt64}, {-1, 0, 0}, {0, 0, 0, 0}, make([]int64, 64), make([]int64, 65)}
	texts := [][]byte{nil, {}, {0}, {1}, {0x80}, {0, 0}, {0, 1}, {1, 0}, {0, 0, 0}, []byte("session"), []byte("sessioo"), []byte("tession"), []byte("sessiom"), []byte("session "), make([]byte, 64), make([]byte, 65), make([]byte, 1024), make([]byte, 1025), filled(1024), filled(1025)}
	for _, m := range bases() {
		for _, one := range ids {
			for _, other := range ids {
				a, b := m, m
				a.ID, b.ID = slices.Clone(one), slices.Clone(other)
				checkSame(t, "ID", a, b, slices.Equal(one, other))
			}
		}
		for _, one := range texts {
			for _, other := range texts {
				a, b := m, m
				a.Session, b.Session = bytes.Clone(one), bytes.Clone(other)
				checkSame(t, "Session", a, b, bytes.Equal(one, other))
				a, b = m, m
				a.Payload, b.Payload = bytes.Clone(one), bytes.Clone(other)
				checkSame(t, "Payload", a, b, bytes.Equal(one, other))
			}
		}
	}
	long := most()
	for at := range long.Payload {
		other := long
		other.Payload = bytes.Clone(long.Payload)
		other.Payload[at] ^= 1
		checkSame(t, "one byte of the payload", long, other, false)
		if at < len(long.Session) {
			other = long
			other.Session = bytes.Clone(long.Session)
			other.Session[at] ^= 0x80
			checkSame(t, "one byte of the session", long, other, false)
		}
	}
}

func TestSameNilAndEmpty(t *testing.T) {
	for _, m := range bases() {
		m.Plan.Pen, m.Plan.Changes, m.ID, m.Session, m.Payload = nil, nil, nil, nil, nil
		for lists := range 32 {
			n := m
			if lists&1 != 0 {
				n.Plan.Pen = []int{}
			}
			if lists&2 != 0 {
				n.Plan.Changes = make([]int64, 0, 9)
			}
			if lists&4 != 0 {
				n.ID = []int64{}
			}
			if lists&8 != 0 {
				n.Session = make([]byte, 0, 9)
			}
			if lists&16 != 0 {
				n.Payload = []byte{}
			}
			checkSame(t, "nil or empty", m, n, true)
		}
	}
}

// Fields that lie side by side are not taken for one another.
func TestSameWithFieldsExchanged(t *testing.T) {
	all := append(fields, kindField)
	for i, f := range all {
		for _, g := range all[:i] {
			var a, b api.Msg
			f.set(&a, 1)
			g.set(&b, 1)
			checkSame(t, f.name+" and "+g.name, a, b, false)
		}
	}
	checkSame(t, "Session and Payload", api.Msg{Session: []byte("s")}, api.Msg{Payload: []byte("s")}, false)
	checkSame(t, "Session and Payload, both", api.Msg{Session: []byte("s"), Payload: []byte("t")}, api.Msg{Session: []byte("t"), Payload: []byte("s")}, false)
	checkSame(t, "one byte moved", api.Msg{Session: []byte("st"), Payload: []byte("u")}, api.Msg{Session: []byte("s"), Payload: []byte("tu")}, false)
	checkSame(t, "HasPlan and Code", api.Msg{HasPlan: true}, api.Msg{Code: 1}, false)
}

// withSpare is m with other values behind those of its lists and texts in their memory.
func withSpare(m api.Msg) api.Msg {
	m.Plan.Pen = append(slices.Clone(m.Plan.Pen), 71, 72)[:len(m.Plan.Pen)]
	m.Plan.Changes = append(slices.Clone(m.Plan.Changes), 81, 82)[:len(m.Plan.Changes)]
	m.ID = append(slices.Clone(m.ID), 91, 92)[:len(m.ID)]
	m.Session = append(slices.Clone(m.Session), "spare"...)[:len(m.Session)]
	m.Payload = append(slices.Clone(m.Payload), "spare"...)[:len(m.Payload)]
	return m
}

// follows tells whether these values stand behind l in its memory.
func follows[T comparable](l []T, values ...T) bool {
	return slices.Equal(l[len(l):len(l)+len(values)], values)
}

// untouched tells whether n is what withSpare made of m.
func untouched(m, n api.Msg) bool {
	return alike(m, n) && follows(n.Plan.Pen, 71, 72) && follows(n.Plan.Changes, 81, 82) && follows(n.ID, 91, 92) &&
		follows(n.Session, []byte("spare")...) && follows(n.Payload, []byte("spare")...)
}

// spoil writes over all of a list's memory, its spare capacity too.
func spoil[T byte | int | int64](l []T) {
	l = l[:cap(l)]
	for i := range l {
		l[i] ^= 0x5a
	}
}

// spoilers write over the lists and texts of a message, one by one.
var spoilers = []func(m api.Msg) api.Msg{
	func(m api.Msg) api.Msg { spoil(m.Plan.Pen); m.Plan.Pen = nil; return m },
	func(m api.Msg) api.Msg { spoil(m.Plan.Changes); m.Plan.Changes = nil; return m },
	func(m api.Msg) api.Msg { spoil(m.ID); m.ID = nil; return m },
	func(m api.Msg) api.Msg { spoil(m.Session); m.Session = nil; return m },
	func(m api.Msg) api.Msg { spoil(m.Payload); m.Payload = nil; return m },
}

// Rule P3: what is passed is neither changed nor kept, and what is returned is new memory.
func TestMemoryOfMessages(t *testing.T) {
	for _, c := range append(goodMessages(), badMessages()...) {
		passed, other := withSpare(c.m), withSpare(c.m)
		right, same := msg.Right(passed), msg.Same(passed, other)
		_, body, err := msg.Body(passed)
		_, bodyAgain, _ := msg.Body(passed)
		put, _ := msg.Put(passed)
		putAgain, _ := msg.Put(passed)
		if !untouched(c.m, passed) || !untouched(c.m, other) {
			t.Fatalf("%s: what is passed is changed: %+v", c.name, c.m)
		}
		spoil(body)
		spoil(put)
		if !untouched(c.m, passed) {
			t.Fatalf("%s: what is returned shares memory with what is passed: %+v", c.name, c.m)
		}
		for _, spoilOne := range spoilers {
			spoilOne(passed)
		}
		if err == api.OK && (!bytes.Equal(bodyAgain, bodyOf(c.m)) || !bytes.Equal(putAgain, frameOf(c.m))) {
			t.Errorf("%s: what is returned for %+v changes with another result, or with what was passed", c.name, c.m)
		}
		fresh, freshErr := msg.Put(c.m)
		if freshErr != err || err == api.OK && !bytes.Equal(fresh, frameOf(c.m)) || msg.Right(c.m) != right || msg.Same(c.m, other) != same {
			t.Errorf("%s: something is kept from call to call: %+v", c.name, c.m)
		}
	}
}

// checkMemory holds a function that reads messages against rule P3, for the bytes of a message.
func checkMemory(t *testing.T, name string, m api.Msg, b []byte, get func([]byte) (api.Msg, api.Errno)) {
	t.Helper()
	passed := slices.Concat(b, []byte("spare"))[:len(b)]
	got, _ := get(passed)
	again, _ := get(passed)
	want := m
	for i, spoilOne := range spoilers {
		got, want = spoilOne(got), spoilOne(withSpare(want))
		if !alike(got, want) {
			t.Fatalf("%s of %+v: list %d shares memory with a later one", name, m, i)
		}
	}
	if !bytes.Equal(passed, b) || !follows(passed, []byte("spare")...) {
		t.Errorf("%s of %+v changes what is passed, or shares its memory", name, m)
	}
	spoil(passed)
	if !alike(again, m) {
		t.Errorf("%s of %+v: what is returned changes with another result, or with what was passed", name, m)
	}
	if fresh, err := get(b); !alike(fresh, m) || err != api.OK {
		t.Errorf("%s of %+v keeps something from call to call", name, m)
	}
}

func TestMemoryOfOfAndGet(t *testing.T) {
	for _, c := range goodMessages() {
		of := func(body []byte) (api.Msg, api.Errno) { return msg.Of(byte(c.m.Kind), body) }
		checkMemory(t, "Of", c.m, bodyOf(c.m), of)
		checkMemory(t, "Get", c.m, frameOf(c.m), msg.Get)
	}
}
