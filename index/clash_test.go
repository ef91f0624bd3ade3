package index_test

import (
	"math"
	"slices"
	"strings"
	"testing"

	"roundelay/api"
	"roundelay/index"
)

// P10.2: Clash

func checkClash(t *testing.T, want api.Entry, l ...api.Entry) {
	t.Helper()
	for range 2 {
		if e, ok := index.Clash(l); e != want || !ok {
			t.Errorf("Clash of %s = %s, %t; want %s", show(l...), show(e), ok, show(want))
		}
	}
}

func checkNoClash(t *testing.T, l ...api.Entry) {
	t.Helper()
	for range 2 {
		if e, ok := index.Clash(l); e != (api.Entry{}) || ok {
			t.Errorf("Clash of %s = %s, %t; want none", show(l...), show(e), ok)
		}
	}
}

func TestClashOfNoneAndOne(t *testing.T) {
	checkNoClash(t)
	checkNoClash(t, []api.Entry{}...)
	for _, e := range []api.Entry{{}, entry("", 1), entry("a", 0), entry("a", 1), entry("\x00", 1), entry("\xff\x00", math.MaxInt64)} {
		checkNoClash(t, e)
	}
}

func TestClashOfTwo(t *testing.T) {
	for _, key := range []string{"", "a", "\x00", "\xff", "\x00\x00", "a\x00", "\x80\xfe\xc3", "é", k(5), strings.Repeat("a", 1<<16)} {
		for _, ids := range [][2]int64{{1, 2}, {2, 1}, {1, 1}, {0, 0}, {0, 1}, {-1, 0}, {9, 10}, {math.MinInt64, math.MaxInt64}, {math.MaxInt64, math.MinInt64}} {
			checkClash(t, entry(key, ids[1]), entry(key, ids[0]), entry(key, ids[1]))
			checkNoClash(t, entry(key, ids[0]), entry(key+"a", ids[1]))
			checkNoClash(t, entry(key+"\x00", ids[0]), entry(key, ids[1]))
			checkNoClash(t, entry("b"+key, ids[0]), entry("c"+key, ids[1]))
			checkNoClash(t, entry(key+"x", ids[0]), entry(key+"X", ids[1]))
		}
	}
}

// many are that many entries with keys of their own, which rise, but for those that have the one of the entry right ahead of them.
func many(n int, clashes ...int) []api.Entry {
	var out []api.Entry
	for i := range n {
		out = append(out, entry(k(int64(i)), int64(i+1)))
		if slices.Contains(clashes, i) {
			out[i].Key = out[i-1].Key
		}
	}
	return out
}

func TestClashOfMany(t *testing.T) {
	for _, n := range []int{2, 3, 4, 5, 8, 33, 100} {
		checkNoClash(t, many(n)...)
		for at := 1; at < n; at++ {
			l := many(n, at)
			checkClash(t, l[at], l...)
		}
	}
	l := many(5000, 4999)
	checkClash(t, l[4999], l...)
	checkNoClash(t, l[:4999]...)
}

func TestClashTellsTheFirstOne(t *testing.T) {
	for first := 1; first < 9; first++ {
		for more := first + 1; more < 10; more++ {
			l := many(10, first, more)
			checkClash(t, l[first], l...)
			l = many(10, first, more, 9)
			checkClash(t, l[first], l...)
		}
	}
	checkClash(t, entry("b", 2), entry("b", 9), entry("b", 2), entry("a", 1), entry("a", 3))
}

func TestClashOfThreeOfAKeyTellsTheSecondOne(t *testing.T) {
	checkClash(t, entry("a", 2), entry("a", 1), entry("a", 2), entry("a", 3))
	checkClash(t, entry("a", 2), entry("a", 3), entry("a", 2), entry("a", 1))
	checkClash(t, entry("b", 3), entry("a", 1), entry("b", 2), entry("b", 3), entry("b", 4), entry("c", 5))
	checkClash(t, entry("b", 0), entry("a", 0), entry("b", 0), entry("b", 0), entry("b", 0))
}

func TestClashOfKeysThatAreNotBesideOneAnother(t *testing.T) {
	checkNoClash(t, entry("a", 1), entry("b", 2), entry("a", 3))
	checkNoClash(t, entry("a", 1), entry("b", 1), entry("a", 1), entry("b", 1))
	checkNoClash(t, entry("", 1), entry("a", 2), entry("", 1))
	checkNoClash(t, entry("c", 1), entry("a", 2), entry("b", 3), entry("c", 4), entry("a", 5))
	checkClash(t, entry("a", 5), entry("a", 1), entry("b", 2), entry("a", 4), entry("a", 5), entry("b", 6))
}

func TestClashOfEntriesThatAreTheSame(t *testing.T) {
	checkClash(t, api.Entry{}, api.Entry{}, api.Entry{})
	checkClash(t, entry("a", 7), entry("a", 7), entry("a", 7))
	checkClash(t, entry("b", 1), entry("a", 1), entry("b", 1), entry("b", 1))
}

func TestClashOfTheEmptyKey(t *testing.T) {
	checkClash(t, entry("", 2), entry("", 1), entry("", 2))
	checkClash(t, entry("", 2), entry("", 1), entry("", 2), entry("a", 3), entry("a", 4))
	checkClash(t, entry("", 0), entry("a", 1), entry("", 2), entry("", 0))
	checkNoClash(t, entry("", 1), entry("\x00", 1), entry("\x00\x00", 1))
	checkNoClash(t, entry("", 0), entry("a", 0))
	checkNoClash(t, entry("a", 0), entry("", 0))
}

func TestClashDoesNotAskHowNumbersStand(t *testing.T) {
	checkNoClash(t, entry("a", 1), entry("b", 1), entry("c", 1))
	checkNoClash(t, entry("a", 3), entry("b", 2), entry("c", 1))
}

func TestClashOfWhatOfTells(t *testing.T) {
	h := heapOf(t, records(t, `{"a":5,"c":[1]}`, `{"b":1}`, `{"a":2,"c":[1,2]}`, `{"a":5,"b":2}`, `{"a":5,"c":[]}`)...)
	checkClash(t, entry(k(5), 4), index.Of(by("a"), h)...)
	checkNoClash(t, index.Of(by("b"), h)...)
	checkNoClash(t, index.Of(by("c"), h)...)
	checkClash(t, entry(k(1), 3), index.Of(by("c.0"), h)...)
	checkNoClash(t, index.Of(by(""), h)...)
	h.Delete(4)
	checkClash(t, entry(k(5), 5), index.Of(by("a"), h)...)
	h.Set(5, value(t, `{"a":6}`))
	checkNoClash(t, index.Of(by("a"), h)...)
}
