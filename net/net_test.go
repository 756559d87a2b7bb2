package net_test

import (
	"bytes"
	"fmt"
	"runtime"
	"slices"
	"strings"
	"testing"

	"locum/api"
	"locum/net"
)

// Promise P7.1: N1 and N2, one by one. Len and At are asked after each call.

func TestNew(t *testing.T) {
	n, other := net.New(), net.New()
	checkNet(t, "New", n, nil)
	checkErr(t, "Send", n.Send([]byte("a")), api.OK)
	checkNet(t, "Send", n, []string{"a"})
	checkNet(t, "another one", other, nil)
	checkErr(t, "Send to another one", other.Send([]byte("b")), api.OK)
	n.Take(0)
	checkNet(t, "Take", n, nil)
	checkNet(t, "another one", other, []string{"b"})
	checkNet(t, "New, later", net.New(), nil)
}

func TestExamples(t *testing.T) {
	n := filled(t, []string{"a", "b"})
	for _, want := range []string{"a", "b"} {
		if b, found := n.Take(0); string(b) != want || !found {
			t.Errorf("Take(0) = %q, %v, want %q", b, found, want)
		}
	}
	checkErr(t, "Dup(0) of an empty net", net.New().Dup(0), api.ErrArg)
}

// N1, up to the bound.
func TestSend(t *testing.T) {
	n, messages := net.New(), numbered(api.MaxFlight)
	for i, s := range messages {
		checkErr(t, "Send", n.Send([]byte(s)), api.OK)
		checkNet(t, fmt.Sprintf("Send of message %d", i), n, messages[:i+1])
	}
	for _, s := range []string{"one more", "", messages[0]} {
		checkErr(t, "Send to a full net", n.Send([]byte(s)), api.ErrFull)
		checkNet(t, "Send to a full net", n, messages)
	}
	checkErr(t, "Send of nil to a full net", n.Send(nil), api.ErrFull)
	checkNet(t, "Send of nil to a full net", n, messages)
}

// N1, for messages without bytes, and for those that no other layer would take for one.
func TestSendOfAny(t *testing.T) {
	for _, start := range starts() {
		if len(start) == api.MaxFlight {
			continue
		}
		for _, b := range [][]byte{nil, {}, []byte("rest")[:0], {0}, []byte("another one"), bytes.Repeat([]byte{0xf7}, api.MaxBody+9), make([]byte, 1<<20)} {
			n, name := filled(t, start), fmt.Sprintf("%s, Send of %d bytes", title(start), len(b))
			checkErr(t, name, n.Send(b), api.OK)
			checkNet(t, name, n, with(start, string(b)))
		}
	}
}

// N1. At removes nothing, however often it is asked.
func TestAt(t *testing.T) {
	for _, start := range starts() {
		n := filled(t, start)
		for range 3 {
			checkNet(t, title(start), n, start)
		}
		for i, s := range slices.Backward(start) {
			if b, found := n.At(i); string(b) != s || !found {
				t.Errorf("%s: At(%d) = %.40q, %v", title(start), i, b, found)
			}
		}
		for _, i := range absent(len(start)) {
			b, found := n.At(i)
			checkNone(t, fmt.Sprintf("%s: At(%d)", title(start), i), b, found)
		}
		checkNet(t, title(start)+", behind At", n, start)
	}
}

// N2.
func TestTake(t *testing.T) {
	for _, start := range starts() {
		for i, s := range start {
			n, name := filled(t, start), fmt.Sprintf("%s, Take(%d)", title(start), i)
			if b, found := n.Take(i); string(b) != s || !found {
				t.Errorf("%s = %.40q, %v, want %.40q", name, b, found, s)
			}
			checkNet(t, name, n, without(start, i))
		}
	}
}

func TestDrop(t *testing.T) {
	for _, start := range starts() {
		for i := range start {
			n, name := filled(t, start), fmt.Sprintf("%s, Drop(%d)", title(start), i)
			if !n.Drop(i) {
				t.Errorf("%s = false", name)
			}
			checkNet(t, name, n, without(start, i))
		}
	}
}

func TestDup(t *testing.T) {
	for _, start := range starts() {
		for i, s := range start {
			n, name := filled(t, start), fmt.Sprintf("%s, Dup(%d)", title(start), i)
			want, err := with(start, s), api.OK
			if len(start) == api.MaxFlight {
				want, err = start, api.ErrFull
			}
			checkErr(t, name, n.Dup(i), err)
			checkNet(t, name, n, want)
		}
	}
}

// N2, for numbers that there is no message of: with MaxFlight messages too, where Dup's ErrArg is ahead of ErrFull.
func TestAbsent(t *testing.T) {
	for _, start := range starts() {
		n := filled(t, start)
		for _, i := range absent(len(start)) {
			name := fmt.Sprintf("%s: %d", title(start), i)
			b, found := n.Take(i)
			checkNone(t, name+", Take", b, found)
			if n.Drop(i) {
				t.Errorf("%s: Drop = true", name)
			}
			checkErr(t, name+", Dup", n.Dup(i), api.ErrArg)
			checkNet(t, name, n, start)
		}
	}
}

// removals are the calls that remove a message, and tell whether there was one.
func removals() map[string]func(n *net.Net, i int) bool {
	return map[string]func(n *net.Net, i int) bool{
		"Drop": (*net.Net).Drop,
		"Take": func(n *net.Net, i int) bool {
			_, found := n.Take(i)
			return found
		},
	}
}

// Messages are removed one after the other until there is none left, and are sent again then.
func TestRemoveAll(t *testing.T) {
	orders := map[string]func(size int) int{
		"the first one":      func(int) int { return 0 },
		"the last one":       func(size int) int { return size - 1 },
		"the one in between": func(size int) int { return size / 2 },
	}
	for name, remove := range removals() {
		for order, number := range orders {
			for _, start := range starts() {
				n, want, name := filled(t, start), start, fmt.Sprintf("%s, %s of %s", title(start), name, order)
				for len(want) > 0 {
					i := number(len(want))
					want = without(want, i)
					if !remove(n, i) {
						t.Errorf("%s: there is none", name)
					}
					checkNet(t, name, n, want)
				}
				if remove(n, 0) {
					t.Errorf("%s: one more", name)
				}
				checkErr(t, name+", Send", n.Send([]byte("again")), api.OK)
				checkNet(t, name+", Send", n, []string{"again"})
			}
		}
	}
}

// Behind each call that removes one, there is room for exactly one.
func TestRoomAgain(t *testing.T) {
	full := numbered(api.MaxFlight)
	for name, remove := range removals() {
		for _, i := range []int{0, 1, api.MaxFlight / 2, api.MaxFlight - 2, api.MaxFlight - 1} {
			n, name := filled(t, full), fmt.Sprintf("a full net, %s(%d)", name, i)
			left := without(full, i)
			remove(n, i)
			checkErr(t, name+", Send", n.Send([]byte("new")), api.OK)
			checkNet(t, name+", Send", n, with(left, "new"))
			checkErr(t, name+", Send twice", n.Send([]byte("newer")), api.ErrFull)
			checkNet(t, name+", Send twice", n, with(left, "new"))
			remove(n, api.MaxFlight-1)
			checkErr(t, name+", Dup", n.Dup(7), api.OK)
			checkNet(t, name+", Dup", n, with(left, left[7]))
			checkErr(t, name+", Dup twice", n.Dup(7), api.ErrFull)
			checkNet(t, name+", Dup twice", n, with(left, left[7]))
		}
	}
}

// The bound is on the messages in transit, not on those that were ever sent.
func TestManyInAll(t *testing.T) {
	n, want := net.New(), []string{"stays"}
	n.Send([]byte("stays"))
	for i := range 5 * api.MaxFlight {
		s := fmt.Sprintf("message %d", i)
		checkErr(t, "Send", n.Send([]byte(s)), api.OK)
		checkErr(t, "Dup", n.Dup(1), api.OK)
		checkNet(t, "Send, Dup", n, with(with(want, s), s))
		if b, found := n.Take(1); string(b) != s || !found || !n.Drop(1) {
			t.Errorf("Take(1) = %q, %v, want %q", b, found, s)
		}
		checkNet(t, "Take, Drop", n, want)
	}
}

// A full net can be made by Dup alone.
func TestDupToFull(t *testing.T) {
	n, want := filled(t, []string{"a", "b"}), []string{"a", "b"}
	for len(want) < api.MaxFlight {
		i := len(want) * 7 / 11
		want = with(want, want[i])
		checkErr(t, "Dup", n.Dup(i), api.OK)
		checkNet(t, fmt.Sprintf("Dup(%d)", i), n, want)
	}
	for _, i := range []int{0, 1, 2, api.MaxFlight - 1} {
		checkErr(t, "Dup of a full net", n.Dup(i), api.ErrFull)
		checkNet(t, "Dup of a full net", n, want)
	}
}

// What was passed may be changed afterwards; it is not changed itself, including its spare capacity.
func TestPassed(t *testing.T) {
	n, memory := net.New(), []byte("a message, and what stands behind it")
	copied := bytes.Clone(memory)
	want := []string{"a message", "", "message, and"}
	checkErr(t, "Send", n.Send(memory[:9]), api.OK)
	checkErr(t, "Send", n.Send(memory[:0]), api.OK)
	checkErr(t, "Send", n.Send(memory[2:14]), api.OK)
	checkErr(t, "Dup", n.Dup(0), api.OK)
	if !bytes.Equal(memory, copied) {
		t.Errorf("Send has changed %q into %q", copied, memory)
	}
	spoil(memory)
	checkNet(t, "what was passed was changed", n, with(want, want[0]))
	spoiled := bytes.Clone(memory)
	n.Take(1)
	n.Drop(0)
	n.Dup(0)
	if !bytes.Equal(memory, spoiled) {
		t.Errorf("what was passed was changed from %q into %q", spoiled, memory)
	}
	checkNet(t, "what was passed was changed, and calls", n, []string{want[2], want[0], want[2]})
}

// What was returned may be changed: the net's messages stay as they were.
func TestReturned(t *testing.T) {
	for _, start := range starts() {
		if len(start) > 100 {
			continue
		}
		for i := range start {
			n, name := filled(t, start), fmt.Sprintf("%s: %d", title(start), i)
			for range 2 {
				b, _ := n.At(i)
				spoil(b)
				checkNet(t, name+", what At returned was changed", n, start)
			}
			n.Dup(i)
			want := with(start, start[i])
			for _, k := range []int{i, len(start)} {
				b, _ := n.At(k)
				spoil(b)
				checkNet(t, name+", what At returned of two copies was changed", n, want)
			}
			b, _ := n.Take(i)
			spoil(b)
			want = without(want, i)
			checkNet(t, name+", what Take returned was changed", n, want)
			b, _ = n.Take(len(want) - 1)
			spoil(b)
			checkNet(t, name+", what Take returned of the copy was changed", n, want[:len(want)-1])
		}
	}
}

// Two calls never return the same memory.
func TestReturnedApart(t *testing.T) {
	n := filled(t, []string{"a message", "another one", "a message"})
	n.Dup(1)
	var all [][]byte
	for _, i := range []int{0, 0, 1, 1, 2, 2, 3, 3} {
		b, _ := n.At(i)
		all = append(all, b)
	}
	for _, i := range []int{2, 1, 1, 0} {
		b, _ := n.Take(i)
		all = append(all, b)
	}
	for i, b := range all {
		before := make([]string, len(all))
		for k, other := range all {
			before[k] = string(other)
		}
		spoil(b)
		for k, other := range all {
			if k != i && string(other) != before[k] {
				t.Errorf("what call %d returned shares memory with what call %d returned", i, k)
			}
		}
	}
}

// What was returned stays as it was, whatever is called then.
func TestReturnedStays(t *testing.T) {
	start := []string{"first", "second", "third", "fourth"}
	for i, s := range start {
		n := filled(t, start)
		at, _ := n.At(i)
		taken, _ := n.Take(i)
		for k := range 3 * api.MaxFlight {
			n.Dup(k % n.Len())
			n.Drop(k % 5)
			n.Send([]byte(strings.Repeat("x", k%9)))
			n.Send(bytes.Repeat([]byte("y"), len(s)))
		}
		if string(at) != s || string(taken) != s {
			t.Errorf("At(%d) has become %q, Take(%d) %q, both were %q", i, at, i, taken, s)
		}
	}
}

// A message and its copy are apart: either of them is removed alone, and each is duplicated again.
func TestCopyApart(t *testing.T) {
	start := []string{"a", "b", "c"}
	for name, remove := range removals() {
		for i, s := range start {
			name := fmt.Sprintf("%s, Dup(%d)", name, i)
			n := filled(t, start)
			n.Dup(i)
			remove(n, i)
			checkNet(t, name+", the message", n, with(without(start, i), s))
			n = filled(t, start)
			n.Dup(i)
			remove(n, 3)
			checkNet(t, name+", the copy", n, start)
			n.Dup(i)
			n.Dup(3)
			remove(n, 3)
			checkNet(t, name+", the copy behind its own copy", n, with(start, s))
			remove(n, i)
			remove(n, 2)
			checkNet(t, name+", all copies", n, without(start, i))
		}
	}
}

// heap is how many bytes are held.
func heap() int64 {
	var stats runtime.MemStats
	runtime.GC()
	runtime.GC()
	runtime.ReadMemStats(&stats)
	return int64(stats.HeapAlloc)
}

// What was removed is not kept, wherever it stood.
func TestRemovedIsFree(t *testing.T) {
	small := []string{"a", "b"}
	long := strings.Repeat("x", 1<<24)
	for name, remove := range removals() {
		for i := range len(small) + 1 {
			before := heap()
			n := filled(t, slices.Insert(slices.Clone(small), i, long))
			if held := heap() - before; held < int64(len(long)/2) {
				t.Fatalf("with the long message, %d bytes are held", held)
			}
			remove(n, i)
			if held := heap() - before; held > int64(len(long)/2) {
				t.Errorf("behind %s(%d), %d bytes are held", name, i, held)
			}
			checkNet(t, fmt.Sprintf("%s(%d)", name, i), n, small)
		}
	}
}
