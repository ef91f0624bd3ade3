package walk_test

import (
	"math"
	"slices"
	"testing"

	"roundelay/api"
	"roundelay/tree"
	"roundelay/walk"
)

// Here entries come and go while one goes through a tree (P9.1): it is the tree as it is now that counts.

// letters are an entry of each letter, with the number 0, and what is said of going down is what is said of going up, from the other end.
func letters(s string) []api.Entry {
	var out []api.Entry
	for _, c := range s {
		out = append(out, entry(string(c), 0))
	}
	return out
}

func letter(s string) api.Entry { return letters(s)[0] }

// going is a tree of the letters b, d, .., l, and one who goes through it and was told so many of them.
func going(t *testing.T, r api.Range, told string) (*tree.Tree, *walk.Walk) {
	t.Helper()
	x := treeOf(t, letters("bdfhjl")...)
	w := walk.New(x, r)
	for _, e := range letters(told) {
		checkNext(t, w, e)
	}
	return x, w
}

var (
	up   = api.Range{}
	down = api.Range{Down: true}
)

func TestTheOneToldLastGoes(t *testing.T) {
	x, w := going(t, up, "bdf")
	del(t, x, letter("f"))
	checkRest(t, w, behind(letter("f")), letters("hjl")...)

	x, w = going(t, down, "ljh")
	del(t, x, letter("h"))
	checkRest(t, w, behind(letter("h")), letters("fdb")...)
}

// It comes back where it was, which is not above what was told last.
func TestTheOneToldLastGoesAndComes(t *testing.T) {
	for _, c := range []struct {
		r          api.Range
		told, rest string
	}{{up, "bdf", "hjl"}, {down, "ljh", "fdb"}} {
		x, w := going(t, c.r, c.told)
		last := letter(c.told[2:])
		del(t, x, last)
		add(t, x, last)
		checkRest(t, w, behind(last), letters(c.rest)...)
	}
}

func TestTheFirstToldGoes(t *testing.T) {
	x, w := going(t, up, "b")
	del(t, x, letter("b"))
	checkRest(t, w, behind(letter("b")), letters("dfhjl")...)

	x, w = going(t, down, "l")
	del(t, x, letter("l"))
	checkRest(t, w, behind(letter("l")), letters("jhfdb")...)
}

func TestTheNextOneGoes(t *testing.T) {
	x, w := going(t, up, "bd")
	del(t, x, letter("f"))
	checkRest(t, w, behind(letter("d")), letters("hjl")...)

	x, w = going(t, down, "lj")
	del(t, x, letter("h"))
	checkRest(t, w, behind(letter("j")), letters("fdb")...)
}

func TestTheNextOneGoesAheadOfAll(t *testing.T) {
	x, w := going(t, up, "")
	del(t, x, letter("b"))
	checkRest(t, w, api.Mark{}, letters("dfhjl")...)

	x, w = going(t, down, "")
	del(t, x, letter("l"))
	checkRest(t, w, api.Mark{}, letters("jhfdb")...)
}

func TestTheLastOneGoes(t *testing.T) {
	x, w := going(t, up, "bdfhj")
	del(t, x, letter("l"))
	checkNone(t, w, behind(letter("j")))

	x, w = going(t, down, "ljhfd")
	del(t, x, letter("b"))
	checkNone(t, w, behind(letter("d")))
}

func TestAllGo(t *testing.T) {
	for _, c := range []struct {
		r    api.Range
		told string
	}{{up, "bdf"}, {down, "ljh"}} {
		x, w := going(t, c.r, c.told)
		for _, e := range letters("bdfhjl") {
			del(t, x, e)
		}
		checkNone(t, w, behind(letter(c.told[2:])))
		for _, e := range letters("bdfhjl") {
			add(t, x, e)
		}
		rest := part(letters("bdfhjl"), c.r)[3:]
		checkRest(t, w, behind(letter(c.told[2:])), rest...)
	}
}

func TestOneComesBetween(t *testing.T) {
	x, w := going(t, up, "bd")
	add(t, x, letter("e"))
	checkNext(t, w, letter("e"))
	add(t, x, letter("g"))
	add(t, x, letter("i"))
	add(t, x, letter("k"))
	checkRest(t, w, behind(letter("e")), letters("fghijkl")...)

	x, w = going(t, down, "lj")
	add(t, x, letter("i"))
	checkNext(t, w, letter("i"))
	add(t, x, letter("g"))
	add(t, x, letter("e"))
	add(t, x, letter("c"))
	checkRest(t, w, behind(letter("i")), letters("hgfedcb")...)
}

// Of the key told last others come, with numbers above and below.
func TestOneComesOfTheSameKey(t *testing.T) {
	x, w := going(t, up, "bd")
	for _, id := range []int64{-1, 1, math.MinInt64, math.MaxInt64} {
		add(t, x, entry("d", id))
	}
	checkRest(t, w, behind(letter("d")), slices.Concat([]api.Entry{entry("d", 1), entry("d", math.MaxInt64)}, letters("fhjl"))...)

	x, w = going(t, down, "lj")
	for _, id := range []int64{-1, 1, math.MinInt64, math.MaxInt64} {
		add(t, x, entry("j", id))
	}
	checkRest(t, w, behind(letter("j")), slices.Concat([]api.Entry{entry("j", -1), entry("j", math.MinInt64)}, letters("hfdb"))...)
}

func TestOneComesAheadOfAll(t *testing.T) {
	x, w := going(t, up, "")
	add(t, x, letter("a"))
	checkRest(t, w, api.Mark{}, letters("abdfhjl")...)

	x, w = going(t, down, "")
	add(t, x, letter("m"))
	checkRest(t, w, api.Mark{}, letters("mljhfdb")...)
}

// Where one has been already nothing is told any more.
func TestOneComesWhereOneHasBeen(t *testing.T) {
	x, w := going(t, up, "bdf")
	for _, e := range letters("ace") {
		add(t, x, e)
	}
	add(t, x, entry("f", -1))
	checkRest(t, w, behind(letter("f")), letters("hjl")...)

	x, w = going(t, down, "ljh")
	for _, e := range letters("mki") {
		add(t, x, e)
	}
	add(t, x, entry("h", 1))
	checkRest(t, w, behind(letter("h")), letters("fdb")...)
}

func TestOneComesWhenTheEndWasTold(t *testing.T) {
	x, w := going(t, up, "bdfhjl")
	checkNone(t, w, behind(letter("l")))
	add(t, x, letter("a"))
	add(t, x, letter("k"))
	add(t, x, entry("l", -1))
	checkNone(t, w, behind(letter("l")))
	add(t, x, entry("l", 1))
	checkRest(t, w, behind(letter("l")), entry("l", 1))
	add(t, x, letter("n"))
	add(t, x, letter("m"))
	checkRest(t, w, behind(entry("l", 1)), letters("mn")...)

	x, w = going(t, down, "ljhfdb")
	checkNone(t, w, behind(letter("b")))
	add(t, x, letter("m"))
	add(t, x, letter("c"))
	add(t, x, entry("b", 1))
	checkNone(t, w, behind(letter("b")))
	add(t, x, entry("b", -1))
	checkRest(t, w, behind(letter("b")), entry("b", -1))
	add(t, x, letter("A"))
	add(t, x, letter("a"))
	checkRest(t, w, behind(entry("b", -1)), letters("aA")...)
}

func TestOneComesWhenNothingWasThere(t *testing.T) {
	for _, r := range []api.Range{up, down, {From: "c", To: "f"}, {From: "c", To: "f", Down: true}} {
		x := tree.New()
		w := walk.New(x, r)
		checkNone(t, w, api.Mark{})
		add(t, x, letter("e"))
		add(t, x, letter("c"))
		if r.Down {
			checkRest(t, w, api.Mark{}, letters("ec")...)
		} else {
			checkRest(t, w, api.Mark{}, letters("ce")...)
		}
	}
}

// What comes past the end of the range is not told, nor does it keep what comes in the range from being told.
func TestOneComesPastTheRange(t *testing.T) {
	x, w := going(t, api.Range{From: "d", To: "i"}, "dfh")
	for _, e := range letters("aciz") {
		add(t, x, e)
	}
	add(t, x, entry("i", math.MinInt64))
	checkNone(t, w, behind(letter("h")))
	add(t, x, entry("h\xff\xff", 3))
	checkRest(t, w, behind(letter("h")), entry("h\xff\xff", 3))

	x, w = going(t, api.Range{From: "f", To: "k", Down: true}, "jhf")
	for _, e := range letters("aekz") {
		add(t, x, e)
	}
	add(t, x, entry("e\xff\xff", math.MaxInt64))
	checkNone(t, w, behind(letter("f")))
	add(t, x, entry("f", math.MinInt64))
	checkRest(t, w, behind(letter("f")), entry("f", math.MinInt64))
}

// A tree that grows while one goes through it is told whole, as what comes stands where one is going.
func TestManyCome(t *testing.T) {
	for _, step := range []int64{1, -1} {
		x := treeOf(t, entry("k", 0))
		w := walk.New(x, api.Range{Down: step < 0})
		for i := range int64(1000) {
			checkNext(t, w, entry("k", step*i))
			add(t, x, entry("k", step*(i+1)))
			add(t, x, entry("k", -step*(i+1)))
		}
		checkRest(t, w, behind(entry("k", step*999)), entry("k", step*1000))
	}
}

// Each one goes as soon as it is told.
func TestManyGo(t *testing.T) {
	for _, r := range []api.Range{up, down, {From: "k", To: "l"}, {From: "k", To: "l", Down: true}} {
		x := treeOf(t, row(500)...)
		w := walk.New(x, r)
		want := part(row(500), r)
		for _, e := range want {
			checkNext(t, w, e)
			del(t, x, e)
		}
		checkNone(t, w, behind(want[499]))
		if x.Len() != 0 {
			t.Error(x.Len())
		}
	}
}

// Every other one goes ahead of being told.
func TestEveryOtherOneGoes(t *testing.T) {
	for _, r := range []api.Range{up, down} {
		x := treeOf(t, row(500)...)
		w := walk.New(x, r)
		want := part(row(500), r)
		for i := 0; i < 500; i += 2 {
			checkNext(t, w, want[i])
			del(t, x, want[i+1])
		}
		checkNone(t, w, behind(want[498]))
	}
}
