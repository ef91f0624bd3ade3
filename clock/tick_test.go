package clock_test

import (
	"math"
	"slices"
	"testing"

	"roundelay/clock"
)

// P11.2: how much time passes.

func TestTickIsBroughtToNoneToMaxTick(t *testing.T) {
	for _, now := range []int{0, 1, 100, maxTick, 5*maxTick + 3} {
		for _, x := range []struct{ n, want int }{
			{math.MinInt, 0}, {math.MinInt + 1, 0}, {-maxTime, 0}, {-maxTick, 0}, {-2, 0}, {-1, 0}, {0, 0},
			{1, 1}, {2, 2}, {63, 63}, {64, 64}, {65, 65}, {maxTick - 1, maxTick - 1}, {maxTick, maxTick},
			{maxTick + 1, maxTick}, {2 * maxTick, maxTick}, {maxTime, maxTick}, {math.MaxInt - 1, maxTick}, {math.MaxInt, maxTick},
		} {
			t.Run(name(now)+" "+name(x.n), func(t *testing.T) {
				w := later(t, now)
				checkTick(t, w, x.n)
				checkNow(t, w, now+x.want)

				w = later(t, now)
				w.Set(1, now+x.want)
				w.Set(2, now+x.want+1)
				w.Set(3, -1)
				if x.want == 0 {
					checkTick(t, w, x.n, 1, 3)
				} else {
					checkTick(t, w, x.n, 3, 1)
				}
				checkNow(t, w, now+x.want)
				checkAt(t, w, 2, now+x.want+1)
				checkTick(t, w, 0)
				checkTick(t, w, 1, 2)
			})
		}
	}
}

func TestTheLastTime(t *testing.T) {
	for _, short := range []int{0, 1, 2, maxTick - 1, maxTick, maxTick + 1} {
		w := clock.New()
		w.Set(9, maxTime)
		w.Set(-8, maxTime-short)
		w.Set(10, math.MaxInt)
		if short == 0 {
			if l := pass(w, maxTime); !slices.Equal(l, []int64{-8, 9, 10}) {
				t.Fatalf("at MaxTime Tick told %v", l)
			}
		} else {
			if l := pass(w, maxTime-short); !slices.Equal(l, []int64{-8}) {
				t.Fatalf("%d below MaxTime Tick told %v", short, l)
			}
			checkNow(t, w, maxTime-short)
			checkAt(t, w, 9, maxTime)
			if short > maxTick {
				checkTick(t, w, math.MaxInt)
				checkNow(t, w, maxTime-1)
			}
			checkTick(t, w, math.MaxInt, 9, 10)
		}
		checkNow(t, w, maxTime)
	}
}

func TestTheLastTimeStays(t *testing.T) {
	w := later(t, maxTime-1)
	checkTick(t, w, 2)
	checkNow(t, w, maxTime)
	for _, n := range []int{0, 1, maxTick, math.MaxInt, -1, math.MinInt} {
		checkTick(t, w, n)
		checkNow(t, w, maxTime)
		for _, at := range []int{math.MinInt, 0, maxTime - 1, maxTime, maxTime + 1, math.MaxInt} {
			w.Set(4, at)
			checkAt(t, w, 4, maxTime)
			w.Set(3, at)
			checkNow(t, w, maxTime)
			checkTick(t, w, n, 3, 4)
			checkNow(t, w, maxTime)
		}
		w.Set(5, 0)
		checkClear(t, w, 5, true)
	}
}

// P11.2: what is told.

func TestTickTellsThoseNotAboveNow(t *testing.T) {
	for _, n := range []int{0, 1, 2, 7, 63, 64, 65, 127, 128, 1000, maxTick - 1, maxTick} {
		w := clock.New()
		w.Set(1, n)
		w.Set(2, n+1)
		w.Set(3, n-1)
		w.Set(4, n+2)
		w.Set(5, n+64)
		if n == 0 {
			checkTick(t, w, n, 1, 3)
		} else {
			checkTick(t, w, n, 3, 1)
		}
		checkAt(t, w, 2, n+1)
		checkAt(t, w, 4, n+2)
		checkAt(t, w, 5, n+64)
		checkTick(t, w, 0)
		checkTick(t, w, 1, 2)
		checkTick(t, w, 1, 4)
		checkTick(t, w, 61)
		checkTick(t, w, 1, 5)
		checkTick(t, w, maxTick)
	}
}

func TestTickOfAnEmptyWheel(t *testing.T) {
	w := clock.New()
	for _, n := range []int{0, 1, -1, 5, maxTick} {
		checkTick(t, w, n)
	}
	w.Set(1, maxTime)
	for _, n := range []int{0, 1, -1, 5, maxTick} {
		checkTick(t, w, n)
	}
	checkAt(t, w, 1, maxTime)
}

func TestTheExample(t *testing.T) {
	w := clock.New()
	w.Set(7, 3)
	w.Set(5, 3)
	checkTick(t, w, 2)
	checkTick(t, w, 1, 5, 7)
	checkTick(t, w, 1)
	checkNow(t, w, 4)
}

// orders calls f with each order of the numbers below n.
func orders(n int, f func([]int)) {
	l := make([]int, n)
	for i := range l {
		l[i] = i
	}
	var swap func(k int)
	swap = func(k int) {
		if k == n {
			f(l)
			return
		}
		for i := k; i < n; i++ {
			l[k], l[i] = l[i], l[k]
			swap(k + 1)
			l[k], l[i] = l[i], l[k]
		}
	}
	swap(0)
}

// Ids of one digit and of more, and below 0, stand in the order of the numbers, not of their texts, in whatever order they were set.
func TestThoseOfOneDeadlineByRisingID(t *testing.T) {
	for _, want := range [][]int64{
		{-10, -9, -2, -1, 0, 1, 2},
		{2, 3, 9, 10, 11, 20, 100},
		{math.MinInt64, -1 << 40, -100, 0, 99, 1 << 40, math.MaxInt64},
		{1<<31 - 1, 1 << 31, 1<<32 - 1, 1 << 32, 1<<32 + 1, 1 << 33, 1 << 62},
	} {
		orders(len(want), func(l []int) {
			w := clock.New()
			for _, i := range l {
				w.Set(want[i], 6)
			}
			checkTick(t, w, 5)
			checkTick(t, w, 1, want...)
		})
	}
}

func TestByRisingDeadline(t *testing.T) {
	at := []int{0, 1, 2, 9, 10, 64, 100}
	orders(len(at), func(l []int) {
		w, one := clock.New(), clock.New()
		for _, i := range l {
			w.Set(int64(-i), at[i])
			one.Set(int64(-i), at[i])
		}
		checkTick(t, w, 100, 0, -1, -2, -3, -4, -5, -6)
		for i, n := range at {
			checkTick(t, one, n-one.Now(), int64(-i))
		}
	})
}

func TestByDeadlineThenByID(t *testing.T) {
	type pair struct {
		id int64
		at int
	}
	want := []pair{{30, 1}, {4, 2}, {5, 2}, {-1, 3}, {10, 3}, {2, 70}, {11, 70}}
	orders(len(want), func(l []int) {
		w, part := clock.New(), clock.New()
		for _, i := range l {
			w.Set(want[i].id, want[i].at)
			part.Set(want[i].id, want[i].at)
		}
		checkTick(t, w, 100, 30, 4, 5, -1, 10, 2, 11)
		checkTick(t, part, 2, 30, 4, 5)
		checkTick(t, part, 2, -1, 10)
		checkTick(t, part, 65)
		checkTick(t, part, 1, 2, 11)
	})
}

// An id that was set anew stands where its last deadline puts it.
func TestTheOrderIsThatOfTheLastDeadlines(t *testing.T) {
	w := clock.New()
	for id := range int64(9) {
		w.Set(id, int(id))
	}
	for id := range int64(9) {
		w.Set(id, int(20-id))
	}
	w.Set(4, 12)
	checkTick(t, w, 11)
	checkTick(t, w, 9, 4, 8, 7, 6, 5, 3, 2, 1, 0)
}

func TestWhatWasToldIsNotToldAgain(t *testing.T) {
	w := clock.New()
	w.Set(1, 5)
	w.Set(2, 5)
	w.Set(3, 6)
	checkTick(t, w, 5, 1, 2)
	checkTick(t, w, 0)
	checkAt(t, w, 3, 6)
	checkClear(t, w, 1, false)
	checkTick(t, w, 1, 3)
	checkTick(t, w, maxTick)
}

func TestWhatWasToldMayBeSetAnew(t *testing.T) {
	w := clock.New()
	w.Set(1, 5)
	w.Set(2, 9)
	checkTick(t, w, 5, 1)
	w.Set(1, 8)
	checkAt(t, w, 1, 8)
	checkTick(t, w, 2)
	checkTick(t, w, 1, 1)
	w.Set(1, 5)
	checkAt(t, w, 1, 8)
	checkTick(t, w, 0, 1)
	w.Set(1, 9)
	checkTick(t, w, 1, 1, 2)
	for i := range 50 {
		w.Set(1, 0)
		w.Set(2, w.Now()+1)
		checkTick(t, w, 0, 1)
		checkTick(t, w, 1, 2)
		checkNow(t, w, 10+i)
	}
}

func TestBelowNowIsToldByTheNextTick(t *testing.T) {
	for _, at := range []int{math.MinInt, -1, 0, 1, 99, 100} {
		for _, n := range []int{math.MinInt, -1, 0, 1, 5, maxTick, math.MaxInt} {
			w := later(t, 100)
			w.Set(2, at)
			w.Set(1, 100)
			w.Set(7, 101)
			checkAt(t, w, 2, 100)
			if n > 0 {
				checkTick(t, w, n, 1, 2, 7)
			} else {
				checkTick(t, w, n, 1, 2)
				checkAt(t, w, 7, 101)
			}
			checkTick(t, w, 0)
		}
	}
}

// P11.2: many.

// spread sets many deadlines, many of which several ids share.
func spread(w *clock.Wheel, n, over int) {
	for i := range n {
		w.Set(int64(i*7919%n), i*104729%over)
	}
}

func TestManyTicksOfOneAreOneOfMany(t *testing.T) {
	for _, n := range []int{1, 2, 63, 64, 65, 500, 5000} {
		one, many := clock.New(), clock.New()
		spread(one, 1000, 3000)
		spread(many, 1000, 3000)
		want := one.Tick(n)
		var got []int64
		got = append(got, many.Tick(0)...)
		for range n {
			got = append(got, many.Tick(1)...)
		}
		if !slices.Equal(got, want) {
			t.Fatalf("%d ticks of one told %v; one of %d told %v", n, got, n, want)
		}
		checkNow(t, one, n)
		checkNow(t, many, n)
		for id := range int64(1000) {
			at, ok := one.At(id)
			if at2, ok2 := many.At(id); at2 != at || ok2 != ok || ok != (at > n) {
				t.Fatalf("At(%d) = %d, %t and %d, %t", id, at, ok, at2, ok2)
			}
		}
	}
}

func TestManyOfOneDeadline(t *testing.T) {
	const n = 20000
	w := clock.New()
	var want []int64
	for id := range int64(n) {
		w.Set(id*7919%n, 3)
		want = append(want, id)
	}
	checkTick(t, w, 2)
	checkTick(t, w, 1, want...)

	for id := range int64(n) {
		w.Set(id, math.MaxInt)
	}
	for i := range int64(n) {
		if id := i * 7919 % n; id != 77 {
			checkClear(t, w, id, true)
		}
	}
	checkAt(t, w, 77, maxTime)
	checkTick(t, w, maxTick)
}

func TestManyOfManyDeadlines(t *testing.T) {
	const n = 20000
	w := clock.New()
	for id := range int64(n) {
		w.Set(id, int(id*7919%n)+1)
	}
	for i := range n {
		l := w.Tick(1)
		if len(l) != 1 || int(l[0]*7919%n) != i {
			t.Fatalf("at %d Tick told %v", w.Now(), l)
		}
	}
	checkTick(t, w, maxTick)
}

// Time that passes in steps as great as may be, with many deadlines far off, is not looked at number by number.
func TestLongTimes(t *testing.T) {
	const n = 5000
	w := clock.New()
	for id := range int64(n) {
		w.Set(id, maxTime-int(id))
	}
	if l := pass(w, maxTime-n); len(l) != 0 {
		t.Fatalf("told too early: %v", l)
	}
	for id := range int64(n) {
		checkTick(t, w, 1, n-1-id)
	}
	checkNow(t, w, maxTime)
}
