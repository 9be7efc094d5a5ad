package logic

import (
	"math"
	"math/rand"
	"slices"
	"testing"

	"watchkeeper/api"
	"watchkeeper/key"
	"watchkeeper/matrix"
)

const secret = "open sesame"

const text = `watch 2 5 20 10
device d 0 1
point p0 d 0 1 0 0
point p1 d 1 1 3 2
point p2 d 2 0 0 0
point p3 d 3 1 0 0
cause c0 1 f1a 20 p0
cause c1 2 f1a 0 p0 p1 p2
cause c2 1 a 50 p3
cause c3 1 f2m 50 p3
effect e0 d 0 1 c1 c0
effect e1 d 1 1 c0 c2
effect e2 d 2 1 c2 c3
`

func parsed(t *testing.T) api.Matrix {
	t.Helper()
	m, err, no := matrix.Parse(text + "key " + key.Sum(secret))
	if err != api.OK {
		t.Fatal(err, no)
	}
	return m
}

// vals are samples: 0 and 1 are known, all else is not.
func vals(l ...int) []api.Sample {
	var out []api.Sample
	for _, v := range l {
		if v < 0 {
			out = append(out, api.Sample{Val: 1})
		} else {
			out = append(out, api.Sample{Known: true, Val: v})
		}
	}
	return out
}

func note(kind, who int, at int64) api.Note { return api.Note{Kind: kind, Who: who, At: at} }

func noted(t *testing.T, got []api.Note, want ...api.Note) {
	t.Helper()
	if !slices.Equal(got, want) {
		t.Fatalf("%v, not %v", got, want)
	}
}

func set(at int64, first bool) api.Latch { return api.Latch{Set: true, At: at, First: first} }

func sameState(a, b api.State) bool {
	return slices.Equal(a.Causes, b.Causes) && slices.Equal(a.Effects, b.Effects) && slices.Equal(a.Ends, b.Ends)
}

func holds(t *testing.T, c *Core, want api.State) {
	t.Helper()
	if s := c.State(); !sameState(s, want) {
		t.Fatalf("%v, not %v", s, want)
	}
}

func trip(t *testing.T, c *Core, want ...bool) {
	t.Helper()
	for i, w := range want {
		if c.Trips(i) != w {
			t.Fatalf("%d trips: %v", i, !w)
		}
	}
	for _, i := range []int{-1, len(want), math.MinInt, math.MaxInt} {
		if c.Trips(i) {
			t.Fatalf("%d trips", i)
		}
	}
}

func TestNew(t *testing.T) {
	if New(api.Matrix{}) != nil {
		t.Error("of a matrix that is not right")
	}
	m := parsed(t)
	m.Effects[0].Causes[0] = 9
	if New(m) != nil {
		t.Error("of a matrix that is not right")
	}
	c := New(parsed(t))
	trip(t, c, false, false, false, false)
	holds(t, c, api.State{Causes: make([]api.Latch, 4), Effects: make([]api.Latch, 3), Ends: make([]int64, 4)})
}

func TestScan(t *testing.T) {
	c := New(parsed(t))
	noted(t, c.Scan(vals(0, 0, 1, 0), 1))
	trip(t, c, false, false, false, false)
	noted(t, c.Scan(vals(1, 0, 1, 0), 2), note(1, 0, 2), note(2, 0, 2), note(2, 1, 2))
	noted(t, c.Scan(vals(1, 0, 1, 0), 3))
	trip(t, c, true, false, false, false)
	noted(t, c.Scan(vals(0, 1, 0, 1), 4), note(1, 2, 4), note(2, 2, 4), note(1, 3, 4))
	trip(t, c, false, false, true, true)
	noted(t, c.Scan(vals(0, 1, 0, 0), 6))
	noted(t, c.Scan(vals(0, 1, 0, 0), 7), note(1, 1, 7))
	trip(t, c, false, true, false, false)
	holds(t, c, api.State{
		Causes:  []api.Latch{set(2, true), set(7, false), set(4, false), set(4, true)},
		Effects: []api.Latch{set(2, false), set(2, false), set(4, false)},
		Ends:    make([]int64, 4),
	})
}

// TestUnknown: what is not known votes yes; its delay keeps what it has seen.
func TestUnknown(t *testing.T) {
	c := New(parsed(t))
	noted(t, c.Scan(vals(-1, -1, -1, 0), 0), note(1, 0, 0), note(2, 0, 0), note(2, 1, 0), note(1, 1, 0))
	trip(t, c, true, true, false, false)
	holds(t, c, api.State{
		Causes:  []api.Latch{set(0, true), set(0, false), {}, {}},
		Effects: []api.Latch{set(0, false), set(0, false), {}},
		Ends:    make([]int64, 4),
	})
	c = New(parsed(t))
	c.Scan(vals(0, 1, 1, 0), 1)
	noted(t, c.Scan(vals(0, -1, 1, 0), 2))
	trip(t, c, false, false, false, false)
	noted(t, c.Scan(vals(0, 1, 0, 0), 4), note(1, 1, 4), note(2, 0, 4))
	// A value that is neither is no trip.
	c = New(parsed(t))
	noted(t, c.Scan([]api.Sample{{Known: true, Val: 7}, {Known: true, Val: -1}, {Known: true, Val: 2}, {Known: true, Val: 256}}, 0))
}

func TestScanOfNone(t *testing.T) {
	c := New(parsed(t))
	before := c.State()
	on := vals(1, 1, 0, 1)
	noted(t, c.Scan(on, -1))
	noted(t, c.Scan(on, api.MaxClock+1))
	noted(t, c.Scan(on, math.MaxInt64))
	noted(t, c.Scan(on[:3], 1))
	noted(t, c.Scan(append(vals(1), on...), 1))
	noted(t, c.Scan(nil, 1))
	holds(t, c, before)
	trip(t, c, false, false, false, false)
	c.Bypass(0, 5, 0)
	noted(t, c.Scan(nil, 9))
	if c.State().Ends[0] != 5 {
		t.Error("it lapsed")
	}
	if l := c.Scan(on, api.MaxClock); len(l) == 0 {
		t.Error("not at the last time")
	}
}

func TestBypass(t *testing.T) {
	c := New(parsed(t))
	for _, x := range []struct {
		cause      int
		ticks, now int64
		want       api.Errno
	}{{-1, 1, 1, api.ErrNone}, {4, 1, 1, api.ErrNone}, {1, 1, 1, api.ErrArg}, {0, 21, 1, api.ErrArg}, {0, 0, 1, api.ErrArg}, {0, 1, -1, api.ErrArg}, {0, 1, api.MaxClock + 1, api.ErrArg}} {
		if l, err := c.Bypass(x.cause, x.ticks, x.now); len(l) != 0 || err != x.want {
			t.Errorf("%v: %v %v", x, l, err)
		}
	}
	l, err := c.Bypass(0, 20, 20)
	noted(t, l, note(3, 0, 20))
	if l2, err2 := c.Bypass(0, 1, 21); err != api.OK || len(l2) != 0 || err2 != api.ErrThere {
		t.Error(err, l2, err2)
	}
	noted(t, c.Scan(vals(1, 0, 1, 0), 39))
	trip(t, c, true, false, false, false)
	holds(t, c, api.State{Causes: make([]api.Latch, 4), Effects: make([]api.Latch, 3), Ends: []int64{40, 0, 0, 0}})
	noted(t, c.Scan(vals(1, 0, 1, 0), 40), note(5, 0, 40), note(1, 0, 40), note(2, 0, 40), note(2, 1, 40))
	if l, err := c.Drop(0, 41); len(l) != 0 || err != api.ErrNone {
		t.Error(l, err)
	}
	c.Bypass(2, 50, 41)
	c.Bypass(3, 5, 41)
	l, err = c.Drop(2, -7)
	noted(t, l, note(4, 2, -7))
	if err != api.OK {
		t.Error(err)
	}
	for _, i := range []int{-1, 4, 2} {
		if l, err := c.Drop(i, 5); len(l) != 0 || err != api.ErrNone {
			t.Error(i, l, err)
		}
	}
	c.Bypass(2, 5, 41)
	noted(t, c.Scan(vals(0, 0, 1, 0), 99), note(5, 2, 99), note(5, 3, 99))
}

// TestBypassedOneOfTwo: an effect goes by each of its causes on its own.
func TestBypassedOneOfTwo(t *testing.T) {
	c := New(parsed(t))
	c.Bypass(2, 50, 0)
	noted(t, c.Scan(vals(0, 0, 1, 1), 1), note(1, 3, 1), note(2, 2, 1))
	trip(t, c, false, false, true, true)
}

func TestReset(t *testing.T) {
	c := New(parsed(t))
	c.Scan(vals(1, 0, 1, 1), 1)
	stands := c.State()
	for _, k := range []string{"", "x", secret + "x", key.Sum(secret), "open\x00"} {
		if l, err := c.Reset(k, 2); len(l) != 0 || err != api.ErrKey {
			t.Errorf("%q: %v %v", k, l, err)
		}
	}
	if l, err := c.Reset(secret, 2); len(l) != 0 || err != api.OK {
		t.Error(l, err)
	}
	holds(t, c, stands)
	c.Scan(vals(0, 0, 1, 1), 3)
	l, err := c.Reset(secret, 4)
	noted(t, l, note(7, 0, 4), note(6, 0, 4))
	if err != api.OK {
		t.Error(err)
	}
	holds(t, c, api.State{
		Causes:  []api.Latch{{}, {}, set(1, false), set(1, true)},
		Effects: []api.Latch{{}, set(1, false), set(1, false)},
		Ends:    make([]int64, 4),
	})
	// One that trips, and is bypassed, is healthy, as long as it is bypassed.
	c.Bypass(2, 5, 4)
	l, _ = c.Reset(secret, 9)
	noted(t, l)
	l, _ = c.Reset(secret, 8)
	noted(t, l, note(7, 1, 8), note(6, 2, 8))
	c.Bypass(3, 5, 8)
	l, _ = c.Reset(secret, 9)
	noted(t, l, note(6, 3, 9))
	l, _ = c.Reset(secret, 8)
	noted(t, l, note(7, 2, 8))
	c.Scan(vals(0, 0, 1, 1), 20)
	if s := c.State(); !s.Causes[2].Set || !s.Causes[3].Set || !s.Effects[1].Set || !s.Effects[2].Set {
		t.Error(s)
	}
}

func TestLoad(t *testing.T) {
	c := New(parsed(t))
	c.Scan(vals(1, 1, 1, 0), 1)
	c.Bypass(2, 5, 1)
	stands := c.State()
	some := func() api.State {
		return api.State{
			Causes:  []api.Latch{set(5, false), set(4, true), {}, set(9, false)},
			Effects: []api.Latch{{}, set(3, false), {}},
			Ends:    []int64{0, 7, 2 * api.MaxClock, 0},
		}
	}
	for i, change := range []func(*api.State){
		func(s *api.State) { *s = api.State{} },
		func(s *api.State) { s.Causes = s.Causes[1:] },
		func(s *api.State) { s.Effects = append(s.Effects, api.Latch{}) },
		func(s *api.State) { s.Ends = nil },
		func(s *api.State) { s.Causes[2].First = true },
		func(s *api.State) { s.Causes[2] = set(1, true) },
		func(s *api.State) { s.Causes[0].First = true },
		func(s *api.State) { s.Effects[1].First = true },
		func(s *api.State) { s.Effects[0].At = 1 },
		func(s *api.State) { s.Ends[3] = -1 },
		func(s *api.State) { s.Ends[3] = 2*api.MaxClock + 1 },
	} {
		s := some()
		change(&s)
		if c.Load(s) {
			t.Errorf("%d is loaded", i)
		}
		holds(t, c, stands)
	}
	s := some()
	if !c.Load(s) {
		t.Fatal("not loaded")
	}
	s.Causes[0].At, s.Effects[1].At, s.Ends[1] = 77, 77, 77
	holds(t, c, some())
	trip(t, c, true, false, false, false)
	// What was seen stays: p1 has stood since 1.
	noted(t, c.Scan(vals(1, 1, 1, 0), 4), note(2, 0, 4))
	trip(t, c, true, true, false, false)
	for _, x := range []int{0, 1} {
		g := c.State()
		g.Causes[x].Set = false
		g.Effects[x].At = 55
		g.Ends[x] = 55
	}
	if c.State().Causes[0] != set(5, false) || c.State().Ends[1] != 7 {
		t.Error("a state shares memory")
	}
}

func TestMatrixIsNotKept(t *testing.T) {
	m := parsed(t)
	c := New(m)
	m.Points[0].Trip, m.Causes[0].Points[0], m.Effects[0].Causes[1], m.Causes[0].Votes = 0, 3, 3, 9
	noted(t, c.Scan(vals(1, 0, 1, 0), 2), note(1, 0, 2), note(2, 0, 2), note(2, 1, 2))
}

// watcher holds a core against what it must keep, whatever is called.
type watcher struct {
	t   *testing.T
	m   api.Matrix
	c   *Core
	now int64
}

func (w *watcher) bypassed(cause int) bool { return w.c.State().Ends[cause] > w.now }

func (w *watcher) healthy(cause int) bool { return !w.c.Trips(cause) || w.bypassed(cause) }

func (w *watcher) scan(l []api.Sample) {
	before := w.c.State()
	notes := w.c.Scan(l, w.now)
	after := w.c.State()
	w.noLess(before, after)
	for i := range w.m.Causes {
		if w.healthy(i) {
			continue
		}
		if !after.Causes[i].Set {
			w.t.Fatalf("%d trips, and is not set", i)
		}
		for e, x := range w.m.Effects {
			if slices.Contains(x.Causes, i) && !after.Effects[e].Set {
				w.t.Fatalf("%d trips, its effect %d is not set", i, e)
			}
		}
	}
	for i, end := range after.Ends {
		if end > 0 && end <= w.now || end > w.now+w.m.Causes[i].Limit {
			w.t.Fatalf("%d is bypassed until %d, at %d", i, end, w.now)
		}
	}
	w.told(notes, before, after)
}

// noLess: what was set is set, as it was.
func (w *watcher) noLess(before, after api.State) {
	for i, x := range before.Causes {
		if y := after.Causes[i]; x.Set && (!y.Set || y.At != x.At) {
			w.t.Fatalf("the cause %d was %v, and is %v", i, x, y)
		}
	}
	for i, x := range before.Effects {
		if x.Set && after.Effects[i] != x {
			w.t.Fatalf("the effect %d was %v, and is %v", i, x, after.Effects[i])
		}
	}
}

// told: each change is noted once, and nothing else is.
func (w *watcher) told(notes []api.Note, before, after api.State) {
	want := map[api.Note]int{}
	for i := range before.Causes {
		if after.Causes[i].Set && !before.Causes[i].Set {
			want[note(1, i, w.now)]++
		}
		if after.Ends[i] == 0 && before.Ends[i] > 0 {
			want[note(5, i, w.now)]++
		}
	}
	for i := range before.Effects {
		if after.Effects[i].Set && !before.Effects[i].Set {
			want[note(2, i, w.now)]++
		}
	}
	for _, n := range notes {
		want[n]--
	}
	for n, many := range want {
		if many != 0 {
			w.t.Fatalf("%v is noted %d times less", n, many)
		}
	}
}

func (w *watcher) reset(secret string) {
	before := w.c.State()
	_, err := w.c.Reset(secret, w.now)
	after := w.c.State()
	if err != api.OK {
		if !sameState(before, after) {
			w.t.Fatal("a wrong key changes something")
		}
		return
	}
	for e, x := range w.m.Effects {
		if after.Effects[e].Set != (before.Effects[e].Set && slices.ContainsFunc(x.Causes, func(i int) bool { return !w.healthy(i) })) {
			w.t.Fatalf("the effect %d was %v, and is %v", e, before.Effects[e], after.Effects[e])
		}
	}
	for i := range w.m.Causes {
		if after.Causes[i].Set != (before.Causes[i].Set && !w.healthy(i)) {
			w.t.Fatalf("the cause %d was %v, and is %v", i, before.Causes[i], after.Causes[i])
		}
	}
}

// TestWhateverIsCalled: what is set stands, what trips has its effects, bypasses end.
func TestWhateverIsCalled(t *testing.T) {
	r := rand.New(rand.NewSource(1))
	for range 40 {
		m := parsed(t)
		w := &watcher{t: t, m: m, c: New(m)}
		for range 500 {
			w.now += r.Int63n(3)
			before := w.c.State()
			switch r.Intn(8) {
			case 0:
				_, err := w.c.Bypass(r.Intn(6)-1, r.Int63n(60), w.now)
				w.noLess(before, w.c.State())
				if err != api.OK && !sameState(before, w.c.State()) {
					t.Fatal("an error changes something")
				}
			case 1:
				w.c.Drop(r.Intn(6)-1, w.now)
				w.noLess(before, w.c.State())
			case 2:
				w.reset("no " + secret)
			case 3:
				w.reset(secret)
			default:
				w.scan(vals(r.Intn(3)-r.Intn(2), r.Intn(3)-r.Intn(2), 1-r.Intn(2)*r.Intn(2), r.Intn(2)*r.Intn(2)))
			}
		}
	}
}
