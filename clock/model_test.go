package clock_test

import (
	"math"
	"math/rand"
	"slices"
	"strconv"
	"testing"

	"roundelay/clock"
)

// Here a wheel is held against the document's own sentences, over a plain list of the deadlines, call by call.

// deadline is that of one id.
type deadline struct {
	id int64
	at int
}

// model is a time, and such a list, in the order in which they were set.
type model struct {
	now int
	l   []deadline
}

// nearest is the number from low to high that is nearest to n.
func nearest(n, low, high int) int {
	if n < low {
		return low
	}
	if n > high {
		return high
	}
	return n
}

func (m *model) find(id int64) int {
	return slices.IndexFunc(m.l, func(d deadline) bool { return d.id == id })
}

func (m *model) at(id int64) (int, bool) {
	if i := m.find(id); i >= 0 {
		return m.l[i].at, true
	}
	return 0, false
}

func (m *model) clear(id int64) bool {
	i := m.find(id)
	if i >= 0 {
		m.l = slices.Delete(m.l, i, i+1)
	}
	return i >= 0
}

func (m *model) set(id int64, at int) {
	m.clear(id)
	m.l = append(m.l, deadline{id, nearest(at, m.now, maxTime)})
}

// tick looks for the first one that is due, again and again.
func (m *model) tick(n int) []int64 {
	m.now = nearest(m.now+nearest(n, 0, maxTick), 0, maxTime)
	var out []int64
	for {
		best := -1
		for i, d := range m.l {
			if d.at > m.now {
				continue
			}
			if best < 0 || d.at < m.l[best].at || d.at == m.l[best].at && d.id < m.l[best].id {
				best = i
			}
		}
		if best < 0 {
			return out
		}
		out = append(out, m.l[best].id)
		m.l = slices.Delete(m.l, best, best+1)
	}
}

// pair is a wheel, its model, and how often each answer came.
type pair struct {
	t    *testing.T
	r    *rand.Rand
	w    *clock.Wheel
	m    *model
	seen map[string]int
}

func (p *pair) count(what string, ok bool) { p.seen[what+" "+strconv.FormatBool(ok)]++ }

// anyID is one of few, so that many come again; or that of a deadline; or any at all.
func (p *pair) anyID() int64 {
	switch k := p.r.Intn(10); {
	case k < 5:
		return int64(p.r.Intn(60)) - 20
	case k < 9 && len(p.m.l) > 0:
		return p.m.l[p.r.Intn(len(p.m.l))].id
	}
	return int64(p.r.Uint64()) >> p.r.Intn(64)
}

// anyTime is near Now, as a rule; or a deadline that there is; or near MaxTime; or any at all.
func (p *pair) anyTime() int {
	switch k := p.r.Intn(12); {
	case k < 6:
		return p.m.now + p.r.Intn(40) - 8
	case k < 8 && len(p.m.l) > 0:
		return p.m.l[p.r.Intn(len(p.m.l))].at
	case k < 9:
		return p.m.now + p.r.Intn(2*maxTick)
	case k < 10:
		return maxTime + p.r.Intn(9) - 4
	case k < 11:
		return p.m.now + 64*p.r.Intn(5) + p.r.Intn(3) - 1
	}
	return int(p.r.Uint64()) >> p.r.Intn(64)
}

// anyTick is short, as a rule.
func (p *pair) anyTick() int {
	switch k := p.r.Intn(40); {
	case k < 10:
		return 0
	case k < 30:
		return p.r.Intn(12)
	case k < 35:
		return 62 + p.r.Intn(5)
	case k < 37:
		return -p.r.Intn(100)
	case k < 38:
		return maxTick + p.r.Intn(5) - 2
	case k < 39:
		return []int{math.MinInt, math.MaxInt}[p.r.Intn(2)]
	}
	return int(p.r.Uint64()) >> p.r.Intn(64)
}

func (p *pair) set() {
	id, at := p.anyID(), p.anyTime()
	_, had := p.m.at(id)
	p.count("set of one that had one", had)
	p.count("set brought up", at < p.m.now)
	p.count("set brought down", at > maxTime)
	p.m.set(id, at)
	p.w.Set(id, at)
	p.look(id)
}

func (p *pair) clear() {
	id := p.anyID()
	want := p.m.clear(id)
	p.count("clear", want)
	if ok := p.w.Clear(id); ok != want {
		p.t.Fatalf("Clear(%d) = %t", id, ok)
	}
	p.look(id)
}

func (p *pair) tick() {
	n := p.anyTick()
	want := p.m.tick(n)
	p.count("tick", len(want) > 0)
	p.count("tick that told many", len(want) > 3)
	p.count("tick at the end of all time", p.m.now == maxTime)
	if l := p.w.Tick(n); !slices.Equal(l, want) {
		p.t.Fatalf("Tick(%d) = %v; want %v", n, l, want)
	}
	for _, id := range want {
		p.look(id)
	}
}

func (p *pair) look(id int64) {
	want, has := p.m.at(id)
	p.count("at", has)
	if at, ok := p.w.At(id); at != want || ok != has {
		p.t.Fatalf("At(%d) = %d, %t; want %d, %t", id, at, ok, want, has)
	}
	if p.w.Now() != p.m.now {
		p.t.Fatalf("Now = %d; want %d", p.w.Now(), p.m.now)
	}
}

// all looks at each deadline that there is.
func (p *pair) all() {
	for _, d := range p.m.l {
		p.look(d.id)
	}
}

// step does one thing: deadlines come more often than they go, so that many are told.
func (p *pair) step() {
	switch k := p.r.Intn(10); {
	case k < 5:
		p.set()
	case k < 6:
		p.clear()
	case k < 8:
		p.tick()
	default:
		p.look(p.anyID())
	}
}

func TestAgainstAList(t *testing.T) {
	seen := map[string]int{}
	for seed := range int64(150) {
		p := &pair{t: t, r: rand.New(rand.NewSource(seed)), w: clock.New(), m: &model{}, seen: seen}
		if seed%5 == 4 { // some live near the end of all time
			p.m.now = maxTime - 3*maxTick - int(seed)
			pass(p.w, p.m.now)
		}
		for range 400 {
			p.step()
		}
		p.all()
	}
	for _, what := range []string{"set of one that had one", "set brought up", "set brought down", "clear", "tick", "tick that told many", "tick at the end of all time", "at"} {
		if seen[what+" true"] < 500 || seen[what+" false"] < 500 {
			t.Errorf("too few of one answer: %s: %v", what, seen)
		}
	}
}
