package latch

import (
	"math"
	"math/rand"
	"slices"
	"testing"

	"watchkeeper/api"
)

func set(at int64) api.Latch   { return api.Latch{Set: true, At: at} }
func first(at int64) api.Latch { return api.Latch{Set: true, At: at, First: true} }

func holds(t *testing.T, r *Row, want ...api.Latch) {
	t.Helper()
	if l := r.All(); !slices.Equal(l, want) {
		t.Fatalf("%v, not %v", l, want)
	}
	for i, x := range want {
		if r.At(i) != x {
			t.Fatalf("%d: %v, not %v", i, r.At(i), x)
		}
	}
}

func leads(t *testing.T, r *Row, group, want int) {
	t.Helper()
	i, is := r.First(group)
	if is != (want >= 0) || i != max(want, 0) {
		t.Fatalf("of %d: %d %v, not %d", group, i, is, want)
	}
}

func TestNew(t *testing.T) {
	r := New([]int{1, 1, 0, -5})
	holds(t, r, api.Latch{}, api.Latch{}, api.Latch{}, api.Latch{})
	for _, g := range []int{0, 1, -5, 9} {
		leads(t, r, g, -1)
	}
	for _, i := range []int{-1, 4, math.MinInt, math.MaxInt} {
		if r.At(i) != (api.Latch{}) || r.Trip(i, 1) || r.Reset(i) {
			t.Error(i)
		}
	}
	holds(t, New(nil))
	if !New(nil).Load(nil) {
		t.Error("none may be loaded of none")
	}
}

func TestTheFirstOne(t *testing.T) {
	r := New([]int{3, 3, 3})
	for _, c := range []struct {
		i    int
		now  int64
		want int
	}{{2, 5, 2}, {1, 5, 1}, {0, 6, 1}} {
		if !r.Trip(c.i, c.now) {
			t.Fatal(c)
		}
		leads(t, r, 3, c.want)
	}
	holds(t, r, set(6), first(5), set(5))
	if r.Trip(1, 9) || r.Trip(0, 5) {
		t.Error("tripped twice")
	}
	holds(t, r, set(6), first(5), set(5))
	if !r.Reset(1) || r.Reset(1) {
		t.Error("reset")
	}
	leads(t, r, 3, -1)
	holds(t, r, set(6), api.Latch{}, set(5))
	r.Trip(1, 6)
	leads(t, r, 3, -1)
	r.Reset(0)
	r.Reset(2)
	leads(t, r, 3, -1)
	r.Trip(0, 7)
	leads(t, r, 3, -1)
	r.Reset(0)
	r.Reset(1)
	holds(t, r, api.Latch{}, api.Latch{}, api.Latch{})
	r.Trip(2, 8)
	leads(t, r, 3, 2)
	r.Trip(0, 9)
	leads(t, r, 3, 2)
	r.Reset(0)
	leads(t, r, 3, 2)
	holds(t, r, api.Latch{}, api.Latch{}, first(8))
}

func TestGroups(t *testing.T) {
	r := New([]int{0, 4, 0, -1, 4, -1})
	for i := range 6 {
		r.Trip(i, int64(10-i))
	}
	holds(t, r, set(10), first(9), set(8), first(7), set(6), set(5))
	leads(t, r, 0, -1)
	leads(t, r, 4, 1)
	leads(t, r, -1, 3)
	r = New([]int{4, 4})
	r.Trip(1, -3)
	r.Trip(0, -4)
	holds(t, r, set(-4), first(-3))
	r = New([]int{4, 4})
	r.Trip(0, 5)
	r.Trip(1, 5)
	holds(t, r, first(5), set(5))
}

func TestLoad(t *testing.T) {
	groups := []int{0, 1, 1, 2}
	r := New(groups)
	r.Trip(1, 5)
	kept := r.All()
	for i, l := range [][]api.Latch{
		nil, make([]api.Latch, 3), make([]api.Latch, 5),
		{{At: 1}, {}, {}, {}}, {{}, {First: true}, {}, {}}, {first(1), {}, {}, {}}, {{}, first(1), first(1), {}}, {{}, first(1), first(2), {}}, {{}, {}, {}, {At: -1}},
	} {
		if r.Load(l) || !slices.Equal(r.All(), kept) {
			t.Errorf("%d is loaded", i)
		}
		leads(t, r, 1, 1)
	}
	l := []api.Latch{set(7), set(0), first(-9), first(2)}
	if !r.Load(l) {
		t.Fatal("not loaded")
	}
	l[0] = api.Latch{}
	holds(t, r, set(7), set(0), first(-9), first(2))
	leads(t, r, 1, 2)
	if !r.Load(make([]api.Latch, 4)) {
		t.Fatal("not loaded")
	}
	holds(t, r, make([]api.Latch, 4)...)
	leads(t, r, 1, -1)
	r.Trip(2, 8)
	leads(t, r, 1, 2)
	r.Load([]api.Latch{{}, set(3), {}, {}})
	r.Trip(2, 3)
	leads(t, r, 1, -1)
	r.Load([]api.Latch{{}, {}, first(3), {}})
	r.Trip(1, 3)
	leads(t, r, 1, 1)
	holds(t, r, api.Latch{}, first(3), set(3), api.Latch{})
}

// TestStands: behind many calls each latch is as a plain model has it.
func TestStands(t *testing.T) {
	r := rand.New(rand.NewSource(1))
	groups := []int{0, 1, 1, 2, 2, 2, 0, 1}
	row := New(groups)
	model := make([]api.Latch, len(groups))
	now := int64(0)
	for range 20000 {
		now += r.Int63n(2)
		i := r.Intn(len(groups))
		if r.Intn(2) == 0 {
			did := row.Reset(i)
			if did != model[i].Set {
				t.Fatal("reset")
			}
			model[i] = api.Latch{}
			holds(t, row, model...)
			continue
		}
		did := row.Trip(i, now)
		if did == model[i].Set {
			t.Fatal("trip")
		}
		if did {
			model[i] = trip(model, groups, i, now)
		}
		holds(t, row, model...)
	}
}

// trip is N2: the latch that trips; it takes the mark of another one.
func trip(model []api.Latch, groups []int, i int, now int64) api.Latch {
	alone := groups[i] != 0
	for k, x := range model {
		if groups[i] == 0 || k == i || groups[k] != groups[i] || !x.Set {
			continue
		}
		alone = false
		if x.First && x.At == now && k > i {
			model[k].First = false
			return first(now)
		}
	}
	return api.Latch{Set: true, At: now, First: alone}
}

// TestWhicheverOrder: of those that trip at one time the least number is marked, in whichever order they are told.
func TestWhicheverOrder(t *testing.T) {
	r := rand.New(rand.NewSource(2))
	for range 500 {
		row := New([]int{7, 7, 7, 7, 7, 7})
		some := r.Perm(6)[:1+r.Intn(6)]
		for _, i := range some {
			row.Trip(i, 44)
		}
		leads(t, row, 7, slices.Min(some))
		for _, i := range r.Perm(6) {
			row.Trip(i, 45)
		}
		leads(t, row, 7, slices.Min(some))
	}
}

func TestMemory(t *testing.T) {
	groups := []int{1, 1}
	r := New(groups)
	groups[0] = 0
	r.Trip(0, 1)
	leads(t, r, 1, 0)
	l := r.All()
	l[0].At = 99
	holds(t, r, first(1), api.Latch{})
}
