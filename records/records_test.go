package records_test

import (
	"bytes"
	"fmt"
	"math"
	"slices"
	"testing"

	"locum/api"
	"locum/journal"
	"locum/msg"
	"locum/records"
)

// samples are some records of several kinds.
func samples() []api.Msg {
	return []api.Msg{
		{Kind: api.RecFence, Epoch: 4},
		{Kind: api.MsgWrite, Epoch: 5, ID: []int64{1, 2, 3}, Payload: []byte("payload")},
		{Kind: api.MsgPromise, Epoch: 5, Ballot: 6, HasPlan: true, Plan: api.Plan{Epoch: 4, Target: 1, Pen: []int{2}, Changes: []int64{3}}},
		{Kind: api.RecClose, ID: []int64{3, 2, 1}},
	}
}

// frameOf is the frame of a record.
func frameOf(r api.Msg) []byte {
	b, err := msg.Put(r)
	if err != api.OK {
		panic(fmt.Sprintf("no record: %+v", r))
	}
	return b
}

// framed are the frames of some records, one after the other.
func framed(l []api.Msg) []byte {
	var all []byte
	for _, r := range l {
		all = append(all, frameOf(r)...)
	}
	return all
}

// collector is what was replayed.
type collector struct{ got []api.Msg }

func (c *collector) replay(r api.Msg) { c.got = append(c.got, r) }

// check holds what was replayed, and clears it.
func (c *collector) check(t *testing.T, name string, want ...api.Msg) {
	t.Helper()
	if !slices.EqualFunc(c.got, want, msg.Same) {
		t.Errorf("%s: replayed %v, want %v", name, c.got, want)
	}
	c.got = nil
}

// What is remembered is synced first, and then replayed once.
func TestRemember(t *testing.T) {
	j := journal.New()
	for i, r := range samples() {
		var c collector
		err := records.Remember(j, r, func(r api.Msg) {
			if !bytes.Equal(j.Synced(), framed(samples()[:i+1])) || len(j.Tail()) != 0 {
				t.Errorf("record %d is replayed ahead of being synced", i)
			}
			c.replay(r)
		})
		if err != api.OK {
			t.Errorf("record %d: %v", i, err)
		}
		c.check(t, "remembered", r)
	}
}

// With a fuse that blows at the Append, or at the Sync, and with a journal that is down, nothing is replayed.
func TestRememberFails(t *testing.T) {
	for _, r := range samples() {
		for fuse := range 4 {
			var c collector
			j := journal.New()
			j.Fuse(fuse)
			err := records.Remember(j, r, c.replay)
			if fuse >= 2 {
				if err != api.OK {
					t.Errorf("fuse %d: %v", fuse, err)
				}
				c.check(t, "fuse", r)
				continue
			}
			for range 2 {
				if err != api.ErrDown || len(j.Synced()) != 0 || len(j.Tail()) != fuse*len(frameOf(r)) {
					t.Errorf("fuse %d: %v, synced %x, tail %x", fuse, err, j.Synced(), j.Tail())
				}
				c.check(t, "fuse")
				err = records.Remember(j, r, c.replay)
			}
		}
	}
}

// What is no valid message is not remembered.
func TestRememberRefuses(t *testing.T) {
	for _, r := range []api.Msg{{}, {Kind: api.MaxKind + 1}, {Kind: api.RecClose, ID: []int64{1}}, {Kind: api.MsgWrite, Payload: make([]byte, api.MaxPayload+1)}} {
		var c collector
		j := journal.New()
		if err := records.Remember(j, r, c.replay); err != api.ErrMsg || len(j.Synced()) != 0 || len(j.Tail()) != 0 {
			t.Errorf("%v: %v, synced %x, tail %x", r, err, j.Synced(), j.Tail())
		}
		c.check(t, "refused")
	}
}

// What was remembered is restored, in order, behind any crash, and as often as it is asked for; of what was not synced the records that are whole.
func TestRestore(t *testing.T) {
	tail := samples()[2:]
	for keep := -1; keep <= len(framed(tail))+1; keep++ {
		var c collector
		j := journal.New()
		for _, r := range samples()[:2] {
			records.Remember(j, r, func(api.Msg) {})
		}
		for _, r := range tail {
			kind, body, _ := msg.Body(r)
			j.Append(kind, body)
		}
		j.Crash(keep)
		whole := 2
		for whole < 4 && len(framed(samples()[2:whole+1])) <= keep {
			whole++
		}
		for range 3 {
			if err := records.Restore(j, c.replay); err != api.OK || j.Down() {
				t.Errorf("%d bytes kept: %v", keep, err)
			}
			c.check(t, fmt.Sprintf("%d bytes kept", keep), samples()[:whole]...)
		}
	}
	var c collector
	if err := records.Restore(journal.New(), c.replay); err != api.OK {
		t.Errorf("empty: %v", err)
	}
	c.check(t, "empty")
}

// What is no message is passed over.
func TestRestorePassesOver(t *testing.T) {
	var c collector
	j := journal.New()
	for _, r := range samples() {
		kind, body, _ := msg.Body(r)
		j.Append(kind, body[:len(body)-1])
		j.Append(0, body)
		j.Append(kind, body)
		j.Append(byte(api.MaxKind)+1, body)
		j.Append(kind, nil)
	}
	j.Crash(math.MaxInt)
	if err := records.Restore(j, c.replay); err != api.OK {
		t.Error(err)
	}
	c.check(t, "passed over", samples()...)
}

// A journal that can't be opened: its error, and nothing is replayed, till it can be.
func TestRestoreFails(t *testing.T) {
	var c collector
	j := journal.New()
	records.Remember(j, samples()[0], func(api.Msg) {})
	j.Append(byte(api.RecFence), []byte("cut off"))
	j.Crash(3)
	j.Fuse(0)
	if err := records.Restore(j, c.replay); err != api.ErrDown || !j.Down() {
		t.Errorf("Restore: %v, down %v", err, j.Down())
	}
	c.check(t, "failed")
	if err := records.Restore(j, c.replay); err != api.OK {
		t.Errorf("Restore again: %v", err)
	}
	c.check(t, "again", samples()[0])
}
