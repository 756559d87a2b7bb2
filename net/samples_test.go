package net_test

import (
	"fmt"
	"math"
	"slices"
	"strings"
	"testing"

	"locum/api"
	"locum/net"
)

// numbered are so many messages, each different from all others.
func numbered(size int) []string {
	var l []string
	for i := range size {
		l = append(l, fmt.Sprintf("message %d", i))
	}
	return l
}

// starts are the messages of nets that a call is tried on: none, one, several, as many as there is room for, and one less; some are empty, equal or long.
func starts() [][]string {
	long := strings.Repeat("long", 5000)
	return [][]string{
		nil,
		{"a"},
		{""},
		{long},
		{"a", "b"},
		{"a", "a"},
		{"", ""},
		{"a", "", "b", "", "c"},
		{"a", "b", "a", "b", "a"},
		{"a", "ab", "abc", "\x00", "\xf7\x01\x00\x00", long, long + "er"},
		numbered(30),
		numbered(api.MaxFlight - 1),
		numbered(api.MaxFlight),
		make([]string, api.MaxFlight),
	}
}

// title names such messages in what a test tells.
func title(messages []string) string {
	return fmt.Sprintf("%d messages %.40q", len(messages), messages[:min(len(messages), 7)])
}

// filled is a net to which these were sent.
func filled(t *testing.T, messages []string) *net.Net {
	t.Helper()
	n := net.New()
	for _, s := range messages {
		checkErr(t, title(messages)+", Send", n.Send([]byte(s)), api.OK)
	}
	return n
}

// absent are numbers that a net of so many messages has none of.
func absent(size int) []int {
	l := []int{math.MinInt, math.MinInt32, -api.MaxFlight - 1, -api.MaxFlight, -size - 1, -2, -1, size, size + 1, 2*size + 1, math.MaxInt32, math.MaxInt - 1, math.MaxInt}
	for _, i := range []int{api.MaxFlight - 1, api.MaxFlight, api.MaxFlight + 1, 1 << 8, 1 << 16, 1 << 32} {
		if i >= size {
			l = append(l, i, -i)
		}
	}
	return l
}

// without are the messages less the one with a number.
func without(messages []string, i int) []string {
	return slices.Concat(messages[:i], messages[i+1:])
}

// with are the messages, and another one at the end.
func with(messages []string, s string) []string {
	return slices.Concat(messages, []string{s})
}

// checkNet holds all that Len and At tell of a net against the messages that it must have.
func checkNet(t *testing.T, name string, n *net.Net, want []string) {
	t.Helper()
	if n.Len() != len(want) {
		t.Fatalf("%s: Len = %d, want %d", name, n.Len(), len(want))
	}
	for i, s := range want {
		if b, found := n.At(i); string(b) != s || !found {
			t.Fatalf("%s: At(%d) = %.40q, %v, want %.40q", name, i, b, found, s)
		}
	}
	if n.Len() != len(want) {
		t.Fatalf("%s: Len = %d behind At, want %d", name, n.Len(), len(want))
	}
}

// checkNone holds what Take or At returns of a number that there is no message of.
func checkNone(t *testing.T, name string, b []byte, found bool) {
	t.Helper()
	if b != nil || found {
		t.Errorf("%s = %.40q, %v, want nil, false", name, b, found)
	}
}

func checkErr(t *testing.T, name string, got, want api.Errno) {
	t.Helper()
	if got != want {
		t.Errorf("%s: %v, want %v", name, got, want)
	}
}

// spoil changes all bytes of a list, including its spare capacity.
func spoil(b []byte) {
	b = b[:cap(b)]
	for i := range b {
		b[i] ^= 0x55
	}
}
