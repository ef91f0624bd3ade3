package clock_test

import (
	"math"
	"slices"
	"strconv"
	"testing"

	"roundelay/clock"
)

// The limits, as the chapter has them.
const (
	maxTime = 1 << 40
	maxTick = 1 << 20
)

// all ids that are asked of where none has a deadline.
var ids = []int64{math.MinInt64, math.MinInt64 + 1, -1 << 32, -10, -1, 0, 1, 2, 9, 10, 1 << 32, math.MaxInt64 - 1, math.MaxInt64}

// pass lets any time pass, in as many ticks as it takes, and tells what they told.
func pass(w *clock.Wheel, n int) []int64 {
	var out []int64
	for ; n > maxTick; n -= maxTick {
		out = append(out, w.Tick(maxTick)...)
	}
	return append(out, w.Tick(n)...)
}

// later is a wheel at a time, without deadlines.
func later(t *testing.T, now int) *clock.Wheel {
	t.Helper()
	w := clock.New()
	if l := pass(w, now); len(l) != 0 {
		t.Fatalf("without deadlines Tick told %v", l)
	}
	checkNow(t, w, now)
	return w
}

func checkNow(t *testing.T, w *clock.Wheel, want int) {
	t.Helper()
	if got := w.Now(); got != want {
		t.Fatalf("Now = %d; want %d", got, want)
	}
}

func checkAt(t *testing.T, w *clock.Wheel, id int64, want int) {
	t.Helper()
	if at, ok := w.At(id); at != want || !ok {
		t.Fatalf("At(%d) = %d, %t; want %d, true", id, at, ok, want)
	}
}

func checkNone(t *testing.T, w *clock.Wheel, of ...int64) {
	t.Helper()
	for _, id := range of {
		if at, ok := w.At(id); at != 0 || ok {
			t.Fatalf("At(%d) = %d, %t; want 0, false", id, at, ok)
		}
	}
}

func checkClear(t *testing.T, w *clock.Wheel, id int64, want bool) {
	t.Helper()
	if got := w.Clear(id); got != want {
		t.Fatalf("Clear(%d) = %t", id, got)
	}
	checkNone(t, w, id)
}

func checkTick(t *testing.T, w *clock.Wheel, n int, want ...int64) {
	t.Helper()
	if l := w.Tick(n); !slices.Equal(l, want) {
		t.Fatalf("Tick(%d) = %v; want %v", n, l, want)
	}
	checkNone(t, w, want...)
}

// P11.1: New.

func TestNewHasNothing(t *testing.T) {
	w := clock.New()
	checkNow(t, w, 0)
	checkNone(t, w, ids...)
	for _, id := range ids {
		checkClear(t, w, id, false)
	}
	checkNow(t, w, 0)
	checkTick(t, w, 0)
	checkNow(t, w, 0)
	checkTick(t, w, maxTick)
	checkNow(t, w, maxTick)
}

// P11.1: Set.

func TestSetOfOneThatHasNone(t *testing.T) {
	for _, id := range ids {
		w := clock.New()
		w.Set(id, 5)
		for _, other := range ids {
			if other != id {
				checkNone(t, w, other)
			}
		}
		checkAt(t, w, id, 5)
		checkNow(t, w, 0)
		checkTick(t, w, 4)
		checkTick(t, w, 1, id)
	}
}

func TestSetOfOneThatHasOne(t *testing.T) {
	for _, id := range ids {
		for _, first := range []int{0, 1, 5, 9, 10, 11, 100, maxTime} {
			w := clock.New()
			w.Set(id, first)
			w.Set(id, 10)
			checkAt(t, w, id, 10)
			checkTick(t, w, 9)
			checkAt(t, w, id, 10)
			checkTick(t, w, 1, id)
			checkTick(t, w, maxTick)
		}
	}
}

func TestOnlyTheLastOneHolds(t *testing.T) {
	w := clock.New()
	for _, at := range []int{7, 3, 9, 3, 3, 8, 2, 6, 4, 7} {
		w.Set(1, at)
		checkAt(t, w, 1, at)
	}
	checkTick(t, w, 6)
	checkTick(t, w, 1, 1)
	checkTick(t, w, 9)

	w.Set(1, 20)
	w.Set(1, 30)
	checkClear(t, w, 1, true)
	checkTick(t, w, 100)
}

func TestSetAnewAtTheSameTimeIsOne(t *testing.T) {
	w := clock.New()
	for range 5 {
		w.Set(4, 3)
		w.Set(6, 3)
	}
	checkClear(t, w, 4, true)
	checkClear(t, w, 4, false)
	checkTick(t, w, 3, 6)
	checkTick(t, w, 3)
}

func TestSetIsBroughtToNowToMaxTime(t *testing.T) {
	for _, now := range []int{0, 1, 63, 64, 1000, maxTick, 3*maxTick + 7} {
		for _, x := range []struct{ at, want int }{
			{math.MinInt, now}, {math.MinInt + 1, now}, {-maxTime, now}, {-1, now}, {now - 1, now},
			{now, now}, {now + 1, now + 1}, {now + 63, now + 63}, {now + 64, now + 64}, {now + maxTick, now + maxTick}, {now + maxTick + 1, now + maxTick + 1},
			{maxTime - 1, maxTime - 1}, {maxTime, maxTime}, {maxTime + 1, maxTime}, {1 << 50, maxTime}, {math.MaxInt - 1, maxTime}, {math.MaxInt, maxTime},
		} {
			for _, id := range []int64{math.MinInt64, -3, 0, 8, math.MaxInt64} {
				w := later(t, now)
				w.Set(id, x.at)
				checkAt(t, w, id, x.want)
				checkNow(t, w, now)
				w.Set(id, now+5)
				w.Set(id, x.at)
				checkAt(t, w, id, x.want)
				if x.want-now > maxTick {
					checkTick(t, w, maxTick)
					checkAt(t, w, id, x.want)
					continue
				}
				if x.want > now {
					checkTick(t, w, x.want-now-1)
					checkTick(t, w, 1, id)
				} else {
					checkTick(t, w, 0, id)
				}
				checkNow(t, w, x.want)
			}
		}
	}
}

func TestSetChangesNoOther(t *testing.T) {
	w := clock.New()
	for i, id := range ids {
		w.Set(id, 10+i%3)
	}
	has := func(but int64) {
		t.Helper()
		for i, id := range ids {
			if id != but {
				checkAt(t, w, id, 10+i%3)
			}
		}
	}
	for i, id := range ids {
		for _, at := range []int{0, 10, 11, 12, 13, maxTime, -1, math.MaxInt} {
			w.Set(id, at)
			has(id)
		}
		checkClear(t, w, id, true)
		has(id)
		checkClear(t, w, id, false)
		has(id)
		w.Set(id, 10+i%3)
		has(id + 1<<20)
	}
}

// P11.1: Clear.

func TestClear(t *testing.T) {
	for _, id := range ids {
		w := clock.New()
		checkClear(t, w, id, false)
		w.Set(id, 5)
		checkClear(t, w, id, true)
		checkClear(t, w, id, false)
		checkTick(t, w, 10)

		w.Set(id, 15)
		checkTick(t, w, 4)
		checkClear(t, w, id, true)
		checkTick(t, w, 10)
		checkClear(t, w, id, false)
		checkNow(t, w, 24)
	}
}

func TestClearOfOneThatHasCome(t *testing.T) {
	w := clock.New()
	w.Set(1, 3)
	w.Set(2, 4)
	checkTick(t, w, 3, 1)
	checkClear(t, w, 1, false)
	checkAt(t, w, 2, 4)

	w.Set(3, 0)
	checkAt(t, w, 3, 3)
	checkClear(t, w, 3, true)
	checkClear(t, w, 3, false)
	checkTick(t, w, 0)
	checkTick(t, w, 1, 2)
	checkClear(t, w, 2, false)
}

func TestClearAmongOthersOfOneDeadline(t *testing.T) {
	for gone := range ids {
		w := clock.New()
		for _, id := range ids {
			w.Set(id, 7)
		}
		checkClear(t, w, ids[gone], true)
		rest := slices.Delete(slices.Clone(ids), gone, gone+1)
		for _, id := range rest {
			checkAt(t, w, id, 7)
		}
		checkTick(t, w, 6)
		checkTick(t, w, 1, rest...)
		checkTick(t, w, 1)
	}
}

// Whichever of many deadlines is taken away, the others come in their order.
func TestClearAmongOthersOfOtherDeadlines(t *testing.T) {
	const n = 40
	for gone := range int64(n) {
		w := clock.New()
		for i := range int64(n) {
			w.Set(i*7%n, int(10+i*7%n))
		}
		checkClear(t, w, gone, true)
		for id := range int64(n) {
			if id != gone {
				checkAt(t, w, id, int(10+id))
			}
		}
		checkTick(t, w, 9)
		for id := range int64(n) {
			if id == gone {
				checkTick(t, w, 1)
			} else {
				checkTick(t, w, 1, id)
			}
		}
	}
}

func TestClearOfAll(t *testing.T) {
	w := clock.New()
	for i := range int64(100) {
		w.Set(i, int(i)%9)
	}
	for i := range int64(100) {
		checkClear(t, w, i*37%100, true)
	}
	for i := range int64(100) {
		checkClear(t, w, i, false)
	}
	checkTick(t, w, maxTick)
	w.Set(5, 0)
	checkTick(t, w, 0, 5)
}

// P11.1: At.

func TestAtChangesNothing(t *testing.T) {
	w := clock.New()
	w.Set(1, 2)
	w.Set(2, -1)
	for range 3 {
		checkAt(t, w, 1, 2)
		checkAt(t, w, 2, 0)
		checkNone(t, w, 0, 3, -1)
		checkNow(t, w, 0)
	}
	checkTick(t, w, 0, 2)
	checkTick(t, w, 1)
	for range 3 {
		checkAt(t, w, 1, 2)
		checkNone(t, w, 2)
	}
	checkTick(t, w, 1, 1)
	checkClear(t, w, 3, false)
}

// At tells the deadline as Set brought it: that time passes doesn't bring it again.
func TestAtStaysAsTimePasses(t *testing.T) {
	w := clock.New()
	w.Set(1, math.MaxInt)
	w.Set(2, 5000)
	for i := range 49 {
		checkTick(t, w, 100)
		checkNow(t, w, 100*(i+1))
		checkAt(t, w, 1, maxTime)
		checkAt(t, w, 2, 5000)
	}
	checkTick(t, w, 100, 2)
	checkAt(t, w, 1, maxTime)
}

// W1: ids and times at all ends of their numbers.
func TestAnyNumbers(t *testing.T) {
	times := []int{math.MinInt, math.MinInt + 1, -maxTime, -maxTick, -1, 0, 1, 2, maxTick - 1, maxTick, maxTick + 1, maxTime - 1, maxTime, maxTime + 1, math.MaxInt - 1, math.MaxInt}
	w := clock.New()
	now := 0
	for _, n := range times {
		for _, id := range ids {
			for _, at := range times {
				w.Set(id, at)
				checkAt(t, w, id, min(max(at, now), maxTime))
			}
			checkClear(t, w, id, true)
		}
		checkTick(t, w, n)
		now += min(max(n, 0), maxTick)
		checkNow(t, w, now)
	}
}

func name(n int) string { return strconv.Itoa(n) }
