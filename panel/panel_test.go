package panel

import (
	"math"
	"math/rand"
	"slices"
	"testing"

	"watchkeeper/api"
	"watchkeeper/lamp"
)

func states(t *testing.T, p *Panel, want ...int) {
	t.Helper()
	if l := p.States(); !slices.Equal(l, want) {
		t.Fatalf("%v, not %v", l, want)
	}
}

func horn(t *testing.T, p *Panel, want int) {
	t.Helper()
	if p.Horn() != want {
		t.Fatalf("the horn is %d, not %d", p.Horn(), want)
	}
}

func bools(l ...int) []bool {
	out := make([]bool, len(l))
	for i, v := range l {
		out[i] = v == 1
	}
	return out
}

func TestNew(t *testing.T) {
	for _, kinds := range [][]int{{0}, {7}, {1, -1}, {math.MaxInt, 1}, {1, 2, math.MinInt}, make([]int, 3), slices.Repeat([]int{1}, 65), slices.Repeat([]int{1}, 1000)} {
		if New(kinds) != nil {
			t.Errorf("%v", kinds)
		}
	}
	for _, kinds := range [][]int{nil, {1}, {1, 2, 3, 4, 5, 6}, slices.Repeat([]int{6}, 64)} {
		p := New(kinds)
		if p == nil {
			t.Fatalf("%v", kinds)
		}
		states(t, p, make([]int, len(kinds))...)
		horn(t, p, api.HornOff)
		if !slices.Equal(p.Looks(), make([]int, len(kinds))) {
			t.Error(p.Looks())
		}
	}
}

func TestSee(t *testing.T) {
	p := New([]int{1, 2, 3, 4, 5, 6})
	for _, l := range [][2]int{{5, 6}, {6, 5}, {0, 0}, {7, 7}, {7, 6}} {
		if p.See(slices.Repeat([]bool{true}, l[0]), slices.Repeat([]bool{true}, l[1])) {
			t.Error(l)
		}
		states(t, p, 0, 0, 0, 0, 0, 0)
	}
	if !p.See(bools(1, 0, 0, 1, 1, 1), bools(0, 1, 0, 1, 0, 1)) {
		t.Fatal("not seen")
	}
	states(t, p, api.Fresh, api.Quiet, api.Quiet, api.First, api.Seen, api.First)
	if l := p.Looks(); !slices.Equal(l, []int{api.LookFast, 0, 0, api.LookFirst, api.LookOn, api.LookFirst}) {
		t.Error(l)
	}
	p.Ack()
	states(t, p, api.Seen, api.Quiet, api.Quiet, api.FirstSeen, api.Seen, api.FirstSeen)
	horn(t, p, api.HornOff)
	p.See(bools(0, 0, 0, 0, 0, 1), bools(0, 0, 0, 0, 0, 1))
	states(t, p, api.Quiet, api.Quiet, api.Quiet, api.Quiet, api.Back, api.FirstSeen)
	p.Reset()
	states(t, p, api.Quiet, api.Quiet, api.Quiet, api.Quiet, api.Quiet, api.FirstSeen)
}

func TestLoad(t *testing.T) {
	p := New([]int{1, 1, 1})
	p.Load([]int{1, 2, 3})
	p.Silence()
	p.Test(true)
	for _, l := range [][]int{nil, {1, 2}, {1, 2, 3, 4}, {1, 2, 9}, {-1, 2, 3}, {1, math.MaxInt, 3}} {
		if p.Load(l) {
			t.Errorf("%v", l)
		}
		states(t, p, 1, 2, 3)
	}
	horn(t, p, api.HornOn)
	p.Test(false)
	horn(t, p, api.HornOff)
	p.Test(true)
	l := []int{8, 0, 5}
	if !p.Load(l) {
		t.Fatal("not loaded")
	}
	l[0] = 1
	states(t, p, 8, 0, 5)
	horn(t, p, api.HornOn)
	if l := p.Looks(); !slices.Equal(l, []int{api.LookFirst, api.LookOff, api.LookSlow}) {
		t.Error(l)
	}
	p.States()[0] = 3
	p.Looks()[0] = 3
	states(t, p, 8, 0, 5)
}

func TestHorn(t *testing.T) {
	p := New([]int{1, 2, 3})
	for s := range 9 {
		p.Load([]int{0, s, 0})
		horn(t, p, lamp.Horn(s))
		p.Load([]int{5, s, 0})
		horn(t, p, max(1, 2-lamp.Horn(s)%2))
		p.Silence()
		horn(t, p, api.HornOff)
		p.Test(true)
		horn(t, p, api.HornOn)
		if l := p.Looks(); !slices.Equal(l, []int{api.LookOn, api.LookOn, api.LookOn}) {
			t.Error(l)
		}
		states(t, p, 5, s, 0)
		p.Test(false)
		horn(t, p, api.HornOff)
		if p.Looks()[1] != lamp.Look(s) {
			t.Error(p.Looks())
		}
	}
}

// TestOfTheDocument: one is Fresh, Silence, another one is.
func TestOfTheDocument(t *testing.T) {
	p := New([]int{1, 1})
	no := bools(0, 0)
	p.See(bools(1, 0), no)
	horn(t, p, api.HornOn)
	p.Silence()
	horn(t, p, api.HornOff)
	p.See(bools(1, 0), no)
	horn(t, p, api.HornOff)
	p.See(bools(1, 1), no)
	horn(t, p, api.HornOn)
}

// TestSilence: what ends it is a lamp that is Fresh or First, and was neither.
func TestSilence(t *testing.T) {
	for _, c := range []struct {
		kind, state int
		bad, first  bool
		ends        bool
	}{
		{1, api.Quiet, true, false, true}, {4, api.Quiet, true, true, true}, {1, api.Gone, true, false, true}, {4, api.FirstGone, true, false, true},
		{4, api.Fresh, true, true, false}, {4, api.First, true, false, false}, {1, api.Fresh, true, false, false}, {5, api.Quiet, true, false, false},
		{1, api.Seen, true, true, false}, {1, api.Fresh, false, false, false}, {4, api.First, false, false, false}, {3, api.Seen, false, false, false}, {2, api.Back, true, false, true},
	} {
		p := New([]int{c.kind})
		p.Load([]int{c.state})
		p.Silence()
		p.See([]bool{c.bad}, []bool{c.first})
		if p.silent == c.ends {
			t.Errorf("%+v", c)
		}
		p.Ack()
		p.Reset()
		if p.silent == c.ends {
			t.Errorf("%+v, seen", c)
		}
	}
}

// TestEachItsOwn: behind whatever happens each lamp is as lamp.Next says of it alone; what is new is heard; silence and tests change no state.
func TestEachItsOwn(t *testing.T) {
	r := rand.New(rand.NewSource(1))
	for range 200 {
		kinds := make([]int, r.Intn(8))
		for i := range kinds {
			kinds[i] = 1 + r.Intn(6)
		}
		p := New(kinds)
		model := make([]int, len(kinds))
		silent, tested := false, false
		for range 100 {
			switch r.Intn(7) {
			case 0:
				p.Ack()
				for i := range model {
					model[i] = lamp.Next(kinds[i], model[i], api.HapAck)
				}
			case 1:
				p.Reset()
				for i := range model {
					model[i] = lamp.Next(kinds[i], model[i], api.HapReset)
				}
			case 2:
				p.Silence()
				silent = true
			case 3:
				tested = r.Intn(2) == 0
				p.Test(tested)
			default:
				bad, first := make([]bool, len(kinds)), make([]bool, len(kinds))
				for i := range model {
					bad[i], first[i] = r.Intn(2) == 0, r.Intn(3) == 0
					hap := api.HapWell
					if bad[i] {
						hap = api.HapBad
					}
					if bad[i] && first[i] {
						hap = api.HapFirst
					}
					was := model[i]
					model[i] = lamp.Next(kinds[i], was, hap)
					if (model[i] == 1 || model[i] == 6) && was != 1 && was != 6 {
						silent = false
					}
				}
				p.See(bad, first)
			}
			states(t, p, model...)
			horn(t, p, sound(model, silent, tested))
			for i, look := range p.Looks() {
				if want := lamp.Look(model[i]); !tested && look != want || tested && look != api.LookOn {
					t.Fatalf("%d looks %d", model[i], look)
				}
			}
		}
	}
}

func sound(model []int, silent, tested bool) int {
	if tested {
		return api.HornOn
	}
	if silent {
		return api.HornOff
	}
	most := api.HornOff
	for _, s := range model {
		if h := lamp.Horn(s); h == api.HornOn || most == api.HornOff {
			most = h
		}
		if most == api.HornOn {
			break
		}
	}
	return most
}

func TestMemory(t *testing.T) {
	kinds := []int{2, 2}
	p := New(kinds)
	kinds[0] = 1
	p.Load([]int{2, 2})
	p.See(bools(0, 0), bools(0, 0))
	states(t, p, api.Back, api.Back)
}
