package msg_test

import (
	"bytes"
	"encoding/binary"
	"hash/crc32"
	"math"
	"math/rand"
	"slices"

	"locum/api"
)

// Messages, valid ones and others, and their bytes as the document words them.

// field is a field of a message that is a number, with its bounds as the document has them.
type field struct {
	name        string
	least, most int64
	set         func(m *api.Msg, n int64)
}

// fields are in the order of a body.
var fields = []field{
	{"From", 0, 255, func(m *api.Msg, n int64) { m.From = int(n) }},
	{"To", 0, 255, func(m *api.Msg, n int64) { m.To = int(n) }},
	{"Epoch", math.MinInt64, math.MaxInt64, func(m *api.Msg, n int64) { m.Epoch = n }},
	{"Ballot", math.MinInt64, math.MaxInt64, func(m *api.Msg, n int64) { m.Ballot = n }},
	{"Accepted", math.MinInt64, math.MaxInt64, func(m *api.Msg, n int64) { m.Accepted = n }},
	{"Nonce", math.MinInt64, math.MaxInt64, func(m *api.Msg, n int64) { m.Nonce = n }},
	{"Time", math.MinInt64, math.MaxInt64, func(m *api.Msg, n int64) { m.Time = n }},
	{"Up", 0, 0xffff, func(m *api.Msg, n int64) { m.Up = uint64(n) }},
	{"Code", 0, 1000, func(m *api.Msg, n int64) { m.Code = int(n) }},
}

// kindField is not in a body.
var kindField = field{"Kind", 1, 19, func(m *api.Msg, n int64) { m.Kind = api.MsgKind(n) }}

// good are values that the field may have: its bounds, those next to them, and some between.
func (f field) good() []int64 {
	if f.least == math.MinInt64 {
		return []int64{f.least, f.least + 1, -1 << 40, -1 << 32, -65, -64, -2, -1, 0, 1, 2, 63, 64, 1 << 16, 1 << 32, 1<<32 | 1, 1 << 40, f.most - 1, f.most}
	}
	l := []int64{f.least, f.least + 1, f.least + 2, (f.least + f.most) / 2, f.most - 2, f.most - 1, f.most}
	if f.name == "Up" {
		for bit := range 16 {
			l = append(l, 1<<bit, 0xffff^1<<bit)
		}
	}
	return l
}

// bad are values that it may not have: those next to its bounds, far ones, and those that are right but for higher bits.
func (f field) bad() []int64 {
	if f.least == math.MinInt64 {
		return nil
	}
	l := []int64{f.least - 1, f.least - 2, -256, -1 << 31, -1 << 32, -1 << 40, math.MinInt64, math.MinInt64 + 1}
	l = append(l, f.most+1, f.most+2, 2*f.most+2, math.MaxInt64)
	for bit := range 64 {
		if high := int64(1) << bit; high < 0 || high > f.most {
			l = append(l, high, high|1, high|f.most)
		}
	}
	return l
}

// planField is a field of a plan: a value that it may have, not zero, and one that it may not.
type planField struct {
	name  string
	right int64
	wrong int64
	set   func(p *api.Plan, n int64)
}

var planFields = []planField{
	{"Epoch", 1, -1, func(p *api.Plan, n int64) { p.Epoch = n }},
	{"Target", -1, 16, func(p *api.Plan, n int64) { p.Target = int(n) }},
	{"Prev", 15, -2, func(p *api.Plan, n int64) { p.Prev = int(n) }},
	{"Spill", 1, 16, func(p *api.Plan, n int64) { p.Spill = int(n) }},
	{"Percent", 100, 101, func(p *api.Plan, n int64) { p.Percent = int(n) }},
	{"Stamp", 1 << 40, 1<<40 + 1, func(p *api.Plan, n int64) { p.Stamp = n }},
	{"Since", 1, -1, func(p *api.Plan, n int64) { p.Since = n }},
	{"Ramped", 1 << 39, 1<<40 + 1, func(p *api.Plan, n int64) { p.Ramped = n }},
	{"Up", 1 << 15, 1 << 16, func(p *api.Plan, n int64) { p.Up = uint64(n) }},
	{"Sup", 1, math.MinInt64, func(p *api.Plan, n int64) { p.Sup = uint64(n) }},
	{"Pen", 0, 1000001, func(p *api.Plan, n int64) { p.Pen = []int{int(n)} }},
	{"Changes", 0, -1, func(p *api.Plan, n int64) { p.Changes = []int64{n} }},
}

// fullPlan is a valid plan of which each field differs from all others.
func fullPlan() api.Plan {
	return api.Plan{Epoch: 300, Target: 1, Prev: 4, Spill: 2, Percent: 20, Stamp: 1000, Since: 900, Ramped: 950, Up: 0x8007, Sup: 0x10, Pen: []int{0, 70, 1000000}, Changes: []int64{5, 5, 1 << 40}}
}

// mostPlan is the plan whose fields are all at their greatest value.
func mostPlan() api.Plan {
	return api.Plan{Epoch: math.MaxInt64, Target: 15, Prev: 15, Spill: 15, Percent: 100, Stamp: 1 << 40, Since: 1 << 40, Ramped: 1 << 40, Up: 0xffff, Sup: 0xffff, Pen: slices.Repeat([]int{1000000}, 16), Changes: slices.Repeat([]int64{1 << 40}, 8)}
}

// goodPlans are valid: those at their limits, and ones with a single field that is not zero.
func goodPlans() []api.Plan {
	l := []api.Plan{{}, {Target: -1, Prev: -1, Spill: -1}, fullPlan(), mostPlan()}
	for _, f := range planFields {
		var p api.Plan
		f.set(&p, f.right)
		l = append(l, p)
	}
	return l
}

// badPlans are not valid, each by a single field.
func badPlans() []api.Plan {
	l := []api.Plan{{Pen: make([]int, 17)}, {Changes: make([]int64, 9)}, {Changes: []int64{2, 1}}}
	for _, f := range planFields {
		for _, p := range []api.Plan{{}, fullPlan(), mostPlan()} {
			f.set(&p, f.wrong)
			l = append(l, p)
		}
	}
	return l
}

// goodIDs have no numbers or three, which may be any.
func goodIDs() [][]int64 {
	return [][]int64{nil, {}, {0, 0, 0}, {1, 2, 3}, {-1, -1, -1}, {math.MinInt64, 0, math.MaxInt64}, {1 << 40, 1 << 32, -1 << 32}}
}

// badIDs have another number of numbers.
func badIDs() [][]int64 {
	var l [][]int64
	for _, size := range []int{1, 2, 4, 5, 6, 9, 10, 63, 64, 65, 67, 256, 259} {
		l = append(l, make([]int64, size), slices.Repeat([]int64{7}, size))
	}
	return l
}

// filled are bytes that differ from size to size.
func filled(size int) []byte {
	b := make([]byte, size)
	rand.New(rand.NewSource(int64(size))).Read(b)
	return b
}

var (
	goodSessions = []int{0, 1, 2, 62, 63, 64}
	badSessions  = []int{65, 66, 127, 128, 256, 320, 1024, 4096, 4097, 65536, 65600}
	goodPayloads = []int{0, 1, 2, 63, 64, 65, 127, 128, 500, 1022, 1023, 1024}
	badPayloads  = []int{1025, 1026, 2048, 4095, 4096, 4097, 8192, 65536, 66000}
)

// full is a message of which each field differs from all others.
func full() api.Msg {
	return api.Msg{Kind: api.MsgWrite, From: 7, To: 5, Epoch: 300, Ballot: -4, Accepted: 12, Nonce: 1 << 40, Time: -900, Up: 0x8005, Code: 2, HasPlan: true, Plan: fullPlan(), ID: []int64{0, -1, 1 << 40}, Session: []byte("session"), Payload: []byte("the payload")}
}

// bare is full without its plan.
func bare() api.Msg {
	m := full()
	m.HasPlan, m.Plan = false, api.Plan{}
	return m
}

// most is a message whose fields are all at their greatest value.
func most() api.Msg {
	m := api.Msg{Kind: api.MaxKind, HasPlan: true, Plan: mostPlan(), ID: slices.Repeat([]int64{math.MaxInt64}, 3), Session: filled(64), Payload: filled(1024)}
	for _, f := range fields {
		f.set(&m, f.most)
	}
	return m
}

// least is a message whose fields are all at their least value.
func least() api.Msg {
	m := api.Msg{Kind: 1}
	for _, f := range fields {
		f.set(&m, f.least)
	}
	return m
}

// bases are valid messages, for one field of them to be changed.
func bases() []api.Msg { return []api.Msg{{Kind: 1}, full(), bare(), most(), least()} }

// sample is a message that differs from a base in the field that has this name.
type sample struct {
	name string
	m    api.Msg
}

// varied are m with one field at each of some values.
func varied[T any](name string, m api.Msg, values []T, set func(m *api.Msg, value T)) []sample {
	var l []sample
	for _, value := range values {
		n := m
		set(&n, value)
		l = append(l, sample{name, n})
	}
	return l
}

func setPlan(m *api.Msg, p api.Plan)   { m.HasPlan, m.Plan = true, p }
func leavePlan(m *api.Msg, p api.Plan) { m.HasPlan, m.Plan = false, p }
func setID(m *api.Msg, id []int64)     { m.ID = id }
func setSession(m *api.Msg, size int)  { m.Session = filled(size) }
func setPayload(m *api.Msg, size int)  { m.Payload = filled(size) }

// inBody are m with one field that is in its body at each of these values.
func inBody(m api.Msg, numbers func(f field) []int64, plans []api.Plan, ids [][]int64, sessions, payloads []int) []sample {
	var l []sample
	for _, f := range fields {
		l = append(l, varied(f.name, m, numbers(f), f.set)...)
	}
	return slices.Concat(l,
		varied("Plan", m, plans, setPlan),
		varied("ID", m, ids, setID),
		varied("Session", m, sessions, setSession),
		varied("Payload", m, payloads, setPayload))
}

// goodMessages are valid: bases with one field at each of its good values.
func goodMessages() []sample {
	empty := []api.Plan{{}, {Pen: []int{}}, {Changes: []int64{}}, {Pen: make([]int, 0, 3), Changes: make([]int64, 0, 3)}}
	var l []sample
	for _, m := range bases() {
		l = slices.Concat(l,
			[]sample{{"nothing", m}},
			inBody(m, field.good, goodPlans(), goodIDs(), goodSessions, goodPayloads),
			varied("Kind", m, kindField.good(), kindField.set),
			varied("HasPlan", m, empty, leavePlan))
	}
	return l
}

// badBodies are messages that are not valid, by one field that is in their body.
func badBodies() []sample {
	var l []sample
	for _, m := range bases() {
		l = append(l, inBody(m, field.bad, badPlans(), badIDs(), badSessions, badPayloads)...)
	}
	return l
}

// plansLeft are plans that may not be there without HasPlan: all that are not zero.
func plansLeft() []api.Plan {
	var l []api.Plan
	for _, p := range append(goodPlans(), badPlans()...) {
		if !samePlans(p, api.Plan{}) {
			l = append(l, p)
		}
	}
	return l
}

// badMessages are all messages that are not valid, those by their kind, or by a plan without HasPlan, too.
func badMessages() []sample {
	l := append(badBodies(), sample{"everything", api.Msg{}})
	for _, m := range bases() {
		l = slices.Concat(l,
			varied("Kind", m, kindField.bad(), kindField.set),
			varied("a plan without HasPlan", m, plansLeft(), leavePlan))
	}
	return l
}

// randomMessage is valid.
func randomMessage(r *rand.Rand) api.Msg {
	m := api.Msg{Kind: api.MsgKind(1 + r.Intn(19))}
	for _, f := range fields {
		n := f.good()[r.Intn(len(f.good()))]
		if r.Intn(2) == 0 {
			n = f.least + int64(r.Uint64()%(uint64(f.most)-uint64(f.least)))
		}
		f.set(&m, n)
	}
	if r.Intn(2) == 0 {
		l := goodPlans()
		m.HasPlan, m.Plan = true, l[r.Intn(len(l))]
		m.Plan.Epoch = r.Int63()
	}
	if r.Intn(2) == 0 {
		m.ID = []int64{int64(r.Uint64()), r.Int63n(100), int64(r.Uint64())}
	}
	m.Session, m.Payload = filled(r.Intn(65)), filled(r.Intn(30))
	if r.Intn(4) == 0 {
		m.Payload = filled(r.Intn(1025))
	}
	return m
}

// rawText are the bytes of a byte string, be it too long for layer 1; Go's own library has the same bytes for an integer.
func rawText(s []byte) []byte {
	return append(binary.AppendVarint(nil, int64(len(s))), s...)
}

// rawList are the bytes of a list, be it too long for layer 1.
func rawList(l []int64) []byte {
	b := binary.AppendVarint(nil, int64(len(l)))
	for _, n := range l {
		b = binary.AppendVarint(b, n)
	}
	return b
}

// rawPlan are the bytes of a plan, be it valid or not.
func rawPlan(p api.Plan) []byte {
	var pen []int64
	for _, n := range p.Pen {
		pen = append(pen, int64(n))
	}
	first := []int64{p.Epoch, int64(p.Target), int64(p.Prev), int64(p.Spill), int64(p.Percent), p.Stamp, p.Since, p.Ramped, int64(p.Up), int64(p.Sup)}
	return slices.Concat(rawList(first), rawList(pen), rawList(p.Changes))
}

// parts are those that a body consists of, for tests to exchange.
type parts struct {
	first            []int64 // but for the number of HasPlan
	hasPlan          int64
	planText         []byte
	id               []int64
	session, payload []byte
}

// partsOf are the parts of a message, be it valid or not.
func partsOf(m api.Msg) parts {
	p := parts{
		first: []int64{int64(m.From), int64(m.To), m.Epoch, m.Ballot, m.Accepted, m.Nonce, m.Time, int64(m.Up), int64(m.Code)},
		id:    m.ID, session: m.Session, payload: m.Payload,
	}
	if m.HasPlan {
		p.hasPlan, p.planText = 1, rawText(rawPlan(m.Plan))
	}
	return p
}

// numbers are all that the first list has.
func (p parts) numbers() []int64 { return append(slices.Clone(p.first), p.hasPlan) }

// rest is what follows the first list.
func (p parts) rest() []byte {
	return slices.Concat(p.planText, rawList(p.id), rawText(p.session), rawText(p.payload))
}

// body consists of all parts.
func (p parts) body() []byte { return slices.Concat(rawList(p.numbers()), p.rest()) }

// bodyOf is the body of a message, be it valid or not.
func bodyOf(m api.Msg) []byte { return partsOf(m).body() }

// framed is the frame of a kind and a body, by Go's own library.
func framed(kind byte, body []byte) []byte {
	b := binary.BigEndian.AppendUint16([]byte{0xf7, kind}, uint16(len(body)))
	b = append(b, body...)
	return binary.BigEndian.AppendUint32(b, crc32.ChecksumIEEE(b[1:]))
}

// frameOf is the frame of a message, be it valid or not.
func frameOf(m api.Msg) []byte { return framed(byte(m.Kind), bodyOf(m)) }

// samePlans compares plans field by field.
func samePlans(p, q api.Plan) bool {
	return p.Epoch == q.Epoch && p.Target == q.Target && p.Prev == q.Prev && p.Spill == q.Spill && p.Percent == q.Percent &&
		p.Stamp == q.Stamp && p.Since == q.Since && p.Ramped == q.Ramped && p.Up == q.Up && p.Sup == q.Sup &&
		slices.Equal(p.Pen, q.Pen) && slices.Equal(p.Changes, q.Changes)
}

// alike compares messages field by field.
func alike(m, n api.Msg) bool {
	return m.Kind == n.Kind && m.From == n.From && m.To == n.To && m.Epoch == n.Epoch && m.Ballot == n.Ballot &&
		m.Accepted == n.Accepted && m.Nonce == n.Nonce && m.Time == n.Time && m.Up == n.Up && m.Code == n.Code &&
		m.HasPlan == n.HasPlan && samePlans(m.Plan, n.Plan) &&
		slices.Equal(m.ID, n.ID) && bytes.Equal(m.Session, n.Session) && bytes.Equal(m.Payload, n.Payload)
}

// nothing tells whether m has no field but zero ones.
func nothing(m api.Msg) bool { return alike(m, api.Msg{}) }
