package bypass

import (
	"math"
	"math/rand"
	"slices"
	"testing"

	"watchkeeper/api"
)

const top = 1 << 40

func ends(t *testing.T, b *Table, want ...int64) {
	t.Helper()
	if l := b.All(); !slices.Equal(l, want) {
		t.Fatalf("%v, not %v", l, want)
	}
	for i, end := range want {
		if b.Until(i) != end {
			t.Fatalf("%d: %d", i, b.Until(i))
		}
	}
}

func TestNew(t *testing.T) {
	b := New([]int64{5, 0, -3})
	ends(t, b, 0, 0, 0)
	for _, i := range []int{-1, 0, 2, 3, math.MinInt, math.MaxInt} {
		if b.Until(i) != 0 || b.Is(i, 0) || b.Is(i, -1) || b.Drop(i) {
			t.Error(i)
		}
	}
	ends(t, New(nil))
	if !New(nil).Load(nil) || len(New(nil).Lapse(9)) != 0 {
		t.Error("of none")
	}
}

func TestPut(t *testing.T) {
	b := New([]int64{5, 0, -3, math.MaxInt64})
	for _, c := range []struct {
		i          int
		ticks, now int64
		want       api.Errno
	}{
		{-1, 1, 0, api.ErrNone}, {4, 1, 0, api.ErrNone}, {4, 0, -1, api.ErrNone}, {math.MaxInt, 1, 1, api.ErrNone},
		{0, 6, 0, api.ErrArg}, {0, 0, 0, api.ErrArg}, {0, -1, 0, api.ErrArg}, {0, 1, -1, api.ErrArg}, {0, 1, top + 1, api.ErrArg}, {0, math.MinInt64, 0, api.ErrArg}, {0, 1, math.MaxInt64, api.ErrArg},
		{1, 1, 0, api.ErrArg}, {1, 0, 0, api.ErrArg}, {2, 1, 0, api.ErrArg}, {2, -3, 0, api.ErrArg},
		{3, top + 1, 0, api.ErrArg}, {3, math.MaxInt64, 0, api.ErrArg},
	} {
		if err := b.Put(c.i, c.ticks, c.now); err != c.want {
			t.Errorf("%v: %v", c, err)
		}
		ends(t, b, 0, 0, 0, 0)
	}
	for _, c := range []struct {
		i          int
		ticks, now int64
		want       api.Errno
		end        int64
	}{
		{0, 5, 10, api.OK, 15},
		{0, 1, 10, api.ErrThere, 15},
		{0, 5, 14, api.ErrThere, 15},
		{0, 5, 3, api.ErrThere, 15},
		{0, 6, 14, api.ErrArg, 15},
		{0, 1, -1, api.ErrArg, 15},
		{0, 2, 15, api.OK, 17},
		{0, 1, 400, api.OK, 401},
		{3, top, top, api.OK, 2 * top},
		{3, 1, top, api.ErrThere, 2 * top},
	} {
		if err := b.Put(c.i, c.ticks, c.now); err != c.want || b.Until(c.i) != c.end {
			t.Errorf("%v: %v %d", c, err, b.Until(c.i))
		}
	}
	for now, want := range map[int64]bool{math.MinInt64: true, -1: true, 0: true, 400: true, 401: false, math.MaxInt64: false} {
		if b.Is(0, now) != want {
			t.Errorf("at %d: %v", now, !want)
		}
	}
}

// TestOfTheDocument: a cause that is bypassed for 20 ticks at 20 is not at 40.
func TestOfTheDocument(t *testing.T) {
	b := New([]int64{20})
	if b.Put(0, 20, 20) != api.OK || !b.Is(0, 39) || b.Is(0, 40) {
		t.Error(b.Until(0))
	}
}

func TestDropAndLapse(t *testing.T) {
	b := New([]int64{100, 100, 100, 100})
	for i, ticks := range []int64{30, 10, 20} {
		b.Put(i, ticks, 0)
	}
	if l := b.Lapse(9); len(l) != 0 {
		t.Error(l)
	}
	if l := b.Lapse(math.MinInt64); len(l) != 0 {
		t.Error(l)
	}
	if l := b.Lapse(20); !slices.Equal(l, []int{1, 2}) {
		t.Error(l)
	}
	ends(t, b, 30, 0, 0, 0)
	if l := b.Lapse(20); len(l) != 0 {
		t.Error(l)
	}
	if !b.Drop(0) || b.Drop(0) || b.Drop(1) {
		t.Error("dropped")
	}
	ends(t, b, 0, 0, 0, 0)
	b.Put(3, 5, 5)
	if b.Is(3, 50) || !b.Drop(3) {
		t.Error("an end that is over is none")
	}
	b.Put(0, 1, 1)
	b.Put(3, 1, 1)
	if l := b.Lapse(math.MaxInt64); !slices.Equal(l, []int{0, 3}) {
		t.Error(l)
	}
}

func TestLoad(t *testing.T) {
	b := New([]int64{5, 5, 5})
	b.Put(1, 5, 0)
	for _, l := range [][]int64{nil, {1, 2}, {1, 2, 3, 4}, {0, -1, 0}, {0, 0, 2*top + 1}, {math.MaxInt64, 0, 0}, {math.MinInt64, 0, 0}} {
		if b.Load(l) {
			t.Errorf("%v is loaded", l)
		}
		ends(t, b, 0, 5, 0)
	}
	l := []int64{2 * top, 0, 1}
	if !b.Load(l) {
		t.Fatal("not loaded")
	}
	l[0] = 3
	ends(t, b, 2*top, 0, 1)
	if b.Drop(1) || !b.Is(0, top) || b.Put(0, 1, 0) != api.ErrThere {
		t.Error(b.All())
	}
	if l := b.Lapse(1); !slices.Equal(l, []int{2}) {
		t.Error(l)
	}
	if !b.Load([]int64{0, 0, 0}) {
		t.Error("not loaded")
	}
	ends(t, b, 0, 0, 0)
}

// TestItEnds: whatever is done, one that was put is bypassed a limit later just if it was put anew behind its end; none is bypassed for longer than its limit, from any time on.
func TestItEnds(t *testing.T) {
	r := rand.New(rand.NewSource(1))
	limits := []int64{1, 7, 30}
	b := New(limits)
	model := make([]int64, 3)
	now := int64(0)
	for range 30000 {
		now += r.Int63n(3)
		i := r.Intn(3)
		switch r.Intn(6) {
		case 0:
			if b.Drop(i) != (model[i] > 0) {
				t.Fatal("dropped")
			}
			model[i] = 0
		case 1:
			var want []int
			for k, end := range model {
				if end > 0 && end <= now {
					want, model[k] = append(want, k), 0
				}
			}
			if l := b.Lapse(now); !slices.Equal(l, want) {
				t.Fatalf("%v, not %v", l, want)
			}
		default:
			ticks := r.Int63n(33) - 1
			want := api.OK
			switch {
			case ticks < 1 || ticks > limits[i]:
				want = api.ErrArg
			case model[i] > now:
				want = api.ErrThere
			default:
				model[i] = now + ticks
			}
			if err := b.Put(i, ticks, now); err != want {
				t.Fatalf("%d: %v, not %v", ticks, err, want)
			}
		}
		ends(t, b, model...)
		for k, limit := range limits {
			if b.Is(k, now) != (model[k] > now) || b.Is(k, now+limit) {
				t.Fatalf("%d at %d: until %d", k, now, model[k])
			}
		}
	}
}

func TestMemory(t *testing.T) {
	limits := []int64{5, 5}
	b := New(limits)
	limits[0] = 0
	if b.Put(0, 5, 0) != api.OK {
		t.Error("limits are kept by their memory")
	}
	l := b.All()
	l[0] = 77
	ends(t, b, 5, 0)
}
