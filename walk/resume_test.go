package walk_test

import (
	"math"
	"slices"
	"testing"

	"roundelay/api"
	"roundelay/walk"
)

// Here one goes on by a mark (P9.1).

// checkResume goes on by a mark to the end.
func checkResume(t *testing.T, es []api.Entry, r api.Range, m api.Mark, want ...api.Entry) {
	t.Helper()
	w := walk.Resume(treeOf(t, es...), r, m)
	if w == nil {
		t.Fatal("Resume is nil")
	}
	checkRest(t, w, m, want...)
}

// A mark that has not Began is of one who was told none, whatever Entry is in it.
func TestResumeByNoMark(t *testing.T) {
	es := letters("bdfh")
	for _, e := range append(letters("bdfhaczk"), api.Entry{}, entry("d", 1), entry("d", -1), entry("", math.MinInt64), entry("\xff\xff", math.MaxInt64)) {
		m := api.Mark{Entry: e}
		x := treeOf(t, es...)
		checkRest(t, walk.Resume(x, up, m), api.Mark{}, letters("bdfh")...)
		checkRest(t, walk.Resume(x, down, m), api.Mark{}, letters("hfdb")...)
		checkRest(t, walk.Resume(x, api.Range{From: "d", To: "h"}, m), api.Mark{}, letters("df")...)
		checkRest(t, walk.Resume(x, api.Range{From: "d", To: "h", Down: true}, m), api.Mark{}, letters("fd")...)
		checkRest(t, walk.Resume(x, api.Range{From: "h", To: "d"}, m), api.Mark{})
	}
}

func TestResumeByOneThatIsThere(t *testing.T) {
	es := letters("bdfh")
	checkResume(t, es, up, behind(letter("b")), letters("dfh")...)
	checkResume(t, es, up, behind(letter("d")), letters("fh")...)
	checkResume(t, es, up, behind(letter("h")))
	checkResume(t, es, down, behind(letter("h")), letters("fdb")...)
	checkResume(t, es, down, behind(letter("d")), letters("b")...)
	checkResume(t, es, down, behind(letter("b")))
}

func TestResumeByOneThatIsNotThere(t *testing.T) {
	es := letters("bdfh")
	checkResume(t, es, up, behind(letter("a")), letters("bdfh")...)
	checkResume(t, es, up, behind(letter("c")), letters("dfh")...)
	checkResume(t, es, up, behind(entry("d", -1)), letters("dfh")...)
	checkResume(t, es, up, behind(entry("d", 1)), letters("fh")...)
	checkResume(t, es, up, behind(letter("i")))
	checkResume(t, es, down, behind(letter("i")), letters("hfdb")...)
	checkResume(t, es, down, behind(letter("g")), letters("fdb")...)
	checkResume(t, es, down, behind(entry("f", 1)), letters("fdb")...)
	checkResume(t, es, down, behind(entry("f", -1)), letters("db")...)
	checkResume(t, es, down, behind(letter("a")))
	checkResume(t, nil, up, behind(letter("a")))
	checkResume(t, nil, down, behind(letter("a")))
}

func TestResumeInTheRange(t *testing.T) {
	es := letters("bdfhj")
	between := api.Range{From: "d", To: "j"}
	checkResume(t, es, between, behind(letter("d")), letters("fh")...)
	checkResume(t, es, between, behind(letter("e")), letters("fh")...)
	checkResume(t, es, between, behind(letter("f")), letters("h")...)
	checkResume(t, es, between, behind(letter("h")))
	checkResume(t, es, between, behind(letter("i")))
	between.Down = true
	checkResume(t, es, between, behind(letter("i")), letters("hfd")...)
	checkResume(t, es, between, behind(letter("h")), letters("fd")...)
	checkResume(t, es, between, behind(letter("e")), letters("d")...)
	checkResume(t, es, between, behind(letter("d")))
}

// From below the range one comes up to it, and never down.
func TestResumeBelowTheRange(t *testing.T) {
	es := letters("bdfhj")
	for _, m := range []api.Mark{behind(letter("b")), behind(letter("a")), behind(letter("c")), behind(api.Entry{}), behind(entry("", math.MinInt64)), behind(entry("b", math.MaxInt64)), behind(entry("c\xff", 9))} {
		checkResume(t, es, api.Range{From: "d", To: "h"}, m, letters("df")...)
		checkResume(t, es, api.Range{From: "d"}, m, letters("dfhj")...)
		checkResume(t, es, api.Range{From: "e", To: "h"}, m, letters("f")...)
		checkResume(t, es, api.Range{From: "d", To: "h", Down: true}, m)
		checkResume(t, es, api.Range{From: "d", Down: true}, m)
		checkResume(t, es, api.Range{From: "d", To: "d"}, m)
		checkResume(t, es, api.Range{From: "h", To: "d"}, m)
	}
}

// From above the range one comes down to it, and never up.
func TestResumeAboveTheRange(t *testing.T) {
	es := letters("bdfhj")
	for _, m := range []api.Mark{behind(letter("h")), behind(letter("j")), behind(letter("z")), behind(entry("h", math.MinInt64)), behind(entry("h\x00", -9)), behind(entry("\xff\xff", math.MaxInt64))} {
		checkResume(t, es, api.Range{From: "d", To: "h", Down: true}, m, letters("fd")...)
		checkResume(t, es, api.Range{To: "h", Down: true}, m, letters("fdb")...)
		checkResume(t, es, api.Range{From: "d", To: "g", Down: true}, m, letters("fd")...)
		checkResume(t, es, api.Range{From: "d", To: "h"}, m)
		checkResume(t, es, api.Range{To: "h"}, m)
		checkResume(t, es, api.Range{From: "d", To: "d", Down: true}, m)
		checkResume(t, es, api.Range{From: "h", To: "d", Down: true}, m)
	}
}

// Of the key that the range begins with each number is in it, and of the key that it ends with none.
func TestResumeAtTheBounds(t *testing.T) {
	ids := []int64{math.MinInt64, -1, 0, 1, math.MaxInt64}
	es := ofKeys([]string{"a", "b", "c"}, ids...)
	bs := es[5:10]
	r := api.Range{From: "b", To: "c"}
	for i, id := range ids {
		r.Down = false
		checkResume(t, es, r, behind(entry("a", id)), bs...)
		checkResume(t, es, r, behind(entry("b", id)), bs[i+1:]...)
		checkResume(t, es, r, behind(entry("c", id)))
		r.Down = true
		checkResume(t, es, r, behind(entry("c", id)), part(bs, r)...)
		checkResume(t, es, r, behind(entry("b", id)), part(bs, r)[5-i:]...)
		checkResume(t, es, r, behind(entry("a", id)))
	}
}

// A mark of a zero entry that Began is another thing than none.
func TestResumeByZeroEntry(t *testing.T) {
	es := []api.Entry{entry("", -1), {}, entry("", 1), entry("a", 0)}
	checkResume(t, es, up, behind(api.Entry{}), es[2:]...)
	checkResume(t, es, down, behind(api.Entry{}), es[0])
	checkResume(t, es, api.Range{To: "a"}, behind(api.Entry{}), es[2])
	checkResume(t, es, api.Range{From: "a"}, behind(api.Entry{}), es[3])
	checkResume(t, es, api.Range{From: "a", Down: true}, behind(api.Entry{}))
}

func TestResumeByAllMarks(t *testing.T) {
	es := ofKeys([]string{"", "a", "a\x00", "b", "\xff"}, -3, 3)
	x := treeOf(t, es...)
	marks := append(ofKeys([]string{"", "\x00", "a", "a\x00", "aa", "b", "c", "\xff", "\xff\xff"}, math.MinInt64, -3, 0, 3, math.MaxInt64), es...)
	for _, r := range ranges([]string{"", "\x00", "a", "a\x00", "a\x00\x00", "b", "c", "\xff", "\xff\xff"}) {
		for _, e := range marks {
			for _, m := range []api.Mark{behind(e), {Entry: e}} {
				w := walk.Resume(x, r, m)
				if !m.Began {
					m = api.Mark{}
				}
				checkMark(t, w, m)
				for {
					want, there := next(es, r, m)
					if !there {
						break
					}
					checkNext(t, w, want)
					m = behind(want)
				}
				checkNone(t, w, m)
			}
		}
	}
}

// Who goes on by what Mark tells is told what the other one is told.
func TestResumeByWhatMarkTells(t *testing.T) {
	es := append(ofKeys([]string{"a", "b", "d"}, numbers...), entry("", 0), entry("c", 7), entry("z", -7))
	for _, r := range ranges([]string{"", "b", "c", "z"}) {
		x := treeOf(t, es...)
		want := part(es, r)
		w := walk.New(x, r)
		for i := range want {
			checkRest(t, walk.Resume(x, r, w.Mark()), w.Mark(), want[i:]...)
			checkNext(t, w, want[i])
		}
		checkNone(t, w, w.Mark())
		checkRest(t, walk.Resume(x, r, w.Mark()), w.Mark())
	}
}

// One who is resumed each time is told what one is told who stays.
func TestResumeEachTime(t *testing.T) {
	for _, r := range []api.Range{up, down, {From: "k", To: "l"}, {From: "k", To: "l", Down: true}} {
		x := treeOf(t, row(300)...)
		m := api.Mark{}
		for _, e := range part(row(300), r) {
			w := walk.Resume(x, r, m)
			checkNext(t, w, e)
			m = w.Mark()
		}
		checkNone(t, walk.Resume(x, r, m), m)
	}
}

// The range may be another one than that of the one who told the mark.
func TestResumeInAnotherRange(t *testing.T) {
	x := treeOf(t, letters("bdfhj")...)
	w := walk.New(x, api.Range{From: "d", To: "g"})
	checkNext(t, w, letter("d"))
	checkNext(t, w, letter("f"))
	m := w.Mark()
	checkRest(t, walk.Resume(x, up, m), m, letters("hj")...)
	checkRest(t, walk.Resume(x, down, m), m, letters("db")...)
	checkRest(t, walk.Resume(x, api.Range{From: "g"}, m), m, letters("hj")...)
	checkRest(t, walk.Resume(x, api.Range{From: "c", To: "j", Down: true}, m), m, letters("d")...)
	checkRest(t, walk.Resume(x, api.Range{To: "f"}, m), m)
	checkRest(t, w, m)
}

func TestResumeInAnotherTree(t *testing.T) {
	w := walk.New(treeOf(t, letters("bdf")...), up)
	checkNext(t, w, letter("b"))
	other := treeOf(t, letters("acdex")...)
	checkRest(t, walk.Resume(other, up, w.Mark()), w.Mark(), letters("cdex")...)
	checkRest(t, w, behind(letter("b")), letters("df")...)
}

// What comes and goes meanwhile counts for one who is resumed, too.
func TestResumeWhileEntriesComeAndGo(t *testing.T) {
	for _, c := range []struct {
		r          api.Range
		told, rest string
	}{{up, "bdf", "gjkl"}, {down, "ljh", "gdcb"}} {
		x, w := going(t, c.r, c.told)
		m := w.Mark()
		del(t, x, m.Entry)
		add(t, x, letter("g"))
		if c.r.Down {
			del(t, x, letter("f"))
		} else {
			del(t, x, letter("h"))
		}
		add(t, x, letter("c"))
		add(t, x, letter("k"))
		resumed := walk.Resume(x, c.r, m)
		checkRest(t, resumed, m, letters(c.rest)...)
		checkRest(t, w, m, letters(c.rest)...)
		end := resumed.Mark()
		more := letter("a")
		if !c.r.Down {
			more = letter("z")
		}
		add(t, x, more)
		checkRest(t, resumed, end, more)
		checkRest(t, w, end, more)
	}
}

func TestResumeBehindManyEntries(t *testing.T) {
	l := row(400)
	x := treeOf(t, l...)
	for i := 0; i < 400; i += 7 {
		for _, off := range []int64{-1, 0, 1} {
			m := behind(entry("k", l[i].ID+off))
			above, below := slices.Clone(l[i:]), slices.Clone(l[:i])
			if off >= 0 {
				above = above[1:]
			}
			if off > 0 {
				below = append(below, l[i])
			}
			slices.Reverse(below)
			checkRest(t, walk.Resume(x, up, m), m, above...)
			checkRest(t, walk.Resume(x, down, m), m, below...)
		}
	}
}
