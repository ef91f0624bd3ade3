package clock_test

import (
	"slices"
	"testing"

	"roundelay/clock"
)

// Here it is asked that wheels share nothing, neither with one another nor with what they told (W2, W6).

func TestTwoWheels(t *testing.T) {
	a, b := clock.New(), clock.New()
	a.Set(1, 5)
	checkNone(t, b, 1)
	checkClear(t, b, 1, false)
	checkTick(t, b, 10)
	checkNow(t, a, 0)
	b.Set(1, 12)
	b.Set(2, 11)
	checkAt(t, a, 1, 5)
	checkNone(t, a, 2)
	checkTick(t, a, 4)
	checkNow(t, b, 10)
	checkTick(t, b, 2, 2, 1)
	checkTick(t, a, 1, 1)
	checkNow(t, a, 5)
	checkNow(t, b, 12)

	a.Set(3, 6)
	b.Set(3, 13)
	checkClear(t, a, 3, true)
	checkAt(t, b, 3, 13)
	checkTick(t, b, 1, 3)
	checkTick(t, a, 1)
}

// told is a wheel with some deadlines that are to be told by ticks of one, and what they tell.
func told() (*clock.Wheel, [][]int64) {
	w := clock.New()
	var want [][]int64
	for at := range 6 {
		var l []int64
		for id := range int64(at + 3) {
			w.Set(int64(10*at)+id, at)
			l = append(l, int64(10*at)+id)
		}
		want = append(want, l)
	}
	return w, want
}

// spoil changes all that a list shows, and what there may be behind it.
func spoil(l []int64) {
	l = l[:cap(l)]
	for i := range l {
		l[i] = -1000 - int64(i)
	}
}

func TestWhatTickTellsMayBeChanged(t *testing.T) {
	w, want := told()
	for at, ids := range want {
		l := w.Tick(min(at, 1))
		if !slices.Equal(l, ids) {
			t.Fatalf("at %d Tick told %v; want %v", at, l, ids)
		}
		spoil(l)
		checkNow(t, w, at)
		checkNone(t, w, ids...)
		checkNone(t, w, -1000, -1001)
		for later := at + 1; later < len(want); later++ {
			for _, id := range want[later] {
				checkAt(t, w, id, later)
			}
		}
		_ = append(l[:0], 50, 51)
	}
	checkTick(t, w, maxTick)
	spoil(w.Tick(1))
	checkTick(t, w, 1)
}

func TestWhatTickToldStays(t *testing.T) {
	w, want := told()
	var lists [][]int64
	for at := range want {
		lists = append(lists, w.Tick(min(at, 1)))
		for _, id := range want[at] {
			w.Set(id, 100)
		}
	}
	w.Tick(maxTick)
	for at, ids := range want {
		if !slices.Equal(lists[at], ids) {
			t.Errorf("what was told at %d became %v; it was %v", at, lists[at], ids)
		}
	}
	w.Set(1, 0)
	w.Set(2, 0)
	first := w.Tick(0)
	w.Set(3, 0)
	w.Set(4, 0)
	second := w.Tick(0)
	spoil(first)
	if !slices.Equal(second, []int64{3, 4}) {
		t.Errorf("what was told last became %v", second)
	}
}

// What a wheel answers hangs on the calls ahead of it alone: the same calls are answered in the same way.
func TestTheSameCallsAgain(t *testing.T) {
	run := func() (out []int64) {
		w := clock.New()
		spread(w, 300, 40)
		for range 5 {
			out = append(out, w.Tick(8)...)
			spread(w, 100, 60)
		}
		return append(out, w.Tick(maxTick)...)
	}
	want := run()
	if len(want) < 400 {
		t.Fatalf("too few were told: %d", len(want))
	}
	for range 20 {
		if got := run(); !slices.Equal(got, want) {
			t.Fatalf("the same calls told %v, and %v", want, got)
		}
	}
}
