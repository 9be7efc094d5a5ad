package vote

import (
	"math"
	"math/rand"
	"slices"
	"testing"

	"watchkeeper/api"
)

var (
	no       = api.In{}
	yes      = api.In{Trip: true}
	bad      = api.In{Bad: true}
	both     = api.In{Trip: true, Bad: true}
	bypassed = api.In{Trip: true, Bad: true, Bypass: true}
	out      = api.In{Bypass: true}
)

func TestVotes(t *testing.T) {
	for i, c := range []struct {
		votes          int
		l              []api.In
		yes, need      int
		trips, healthy bool
	}{
		{1, nil, 0, 0, false, true},
		{0, nil, 0, 0, false, true},
		{1, []api.In{no}, 0, 1, false, true},
		{1, []api.In{yes}, 1, 1, true, false},
		{1, []api.In{bad}, 1, 1, true, false},
		{1, []api.In{both}, 1, 1, true, false},
		{1, []api.In{bypassed}, 0, 0, false, false},
		{0, []api.In{bypassed, out}, 0, 0, false, false},
		{1, []api.In{out, no}, 0, 1, false, false},
		{2, []api.In{yes, bypassed}, 1, 1, true, false},
		{2, []api.In{no, bypassed}, 0, 1, false, false},
		{2, []api.In{bad, yes, no}, 2, 2, true, false},
		{2, []api.In{no, yes, no}, 1, 2, false, true},
		{3, []api.In{yes, yes, no}, 2, 3, false, true},
		{3, []api.In{yes, yes, out}, 2, 2, true, false},
		{9, []api.In{yes, yes}, 2, 2, true, false},
		{9, []api.In{yes, no}, 1, 2, false, true},
		{0, []api.In{no, no}, 0, 1, false, true},
		{-7, []api.In{no, yes}, 1, 1, true, false},
		{math.MinInt, []api.In{no, no}, 0, 1, false, true},
		{math.MaxInt, []api.In{yes, bad, both}, 3, 3, true, false},
	} {
		if Yes(c.l) != c.yes || Need(c.votes, c.l) != c.need || Trips(c.votes, c.l) != c.trips || Healthy(c.votes, c.l) != c.healthy {
			t.Errorf("%d: %d %d %v %v", i, Yes(c.l), Need(c.votes, c.l), Trips(c.votes, c.l), Healthy(c.votes, c.l))
		}
	}
}

// each tells all rows of up to four of each kind.
func each(f func([]api.In)) {
	kinds := []api.In{no, yes, bad, both, out, bypassed, {Trip: true, Bypass: true}, {Bad: true, Bypass: true}}
	for n := range 5 {
		many := 1
		for range n {
			many *= len(kinds)
		}
		for i := range many {
			l := make([]api.In, n)
			for k := range l {
				l[k] = kinds[i%len(kinds)]
				i /= len(kinds)
			}
			f(l)
		}
	}
}

// TestMoreNeverLess: one more that trips, or is not known, never has it not trip; one that is bypassed has no say.
func TestMoreNeverLess(t *testing.T) {
	each(func(l []api.In) {
		for votes := range 6 {
			trips := Trips(votes, l)
			for i := range l {
				more := slices.Clone(l)
				more[i].Trip = true
				if trips && !Trips(votes, more) {
					t.Fatalf("%d of %v trips, of %v not", votes, l, more)
				}
				more = slices.Clone(l)
				more[i].Bad = true
				if trips && !Trips(votes, more) {
					t.Fatalf("%d of %v trips, of %v not", votes, l, more)
				}
				if !l[i].Bypass {
					continue
				}
				less := slices.Delete(slices.Clone(l), i, i+1)
				if trips != Trips(votes, less) || Need(votes, l) != Need(votes, less) || Yes(l) != Yes(less) {
					t.Fatalf("%d of %v has the bypassed one vote", votes, l)
				}
			}
			if Healthy(votes, l) != (!trips && !slices.ContainsFunc(l, func(x api.In) bool { return x.Bypass })) {
				t.Fatalf("%d of %v: healthy %v", votes, l, !trips)
			}
		}
	})
}

// TestWhichever: in which order they stand changes nothing.
func TestWhichever(t *testing.T) {
	r := rand.New(rand.NewSource(1))
	each(func(l []api.In) {
		turned := slices.Clone(l)
		kept := slices.Clone(l)
		r.Shuffle(len(l), func(i, j int) { turned[i], turned[j] = turned[j], turned[i] })
		for votes := range 6 {
			if Yes(l) != Yes(turned) || Need(votes, l) != Need(votes, turned) || Trips(votes, l) != Trips(votes, turned) || Healthy(votes, l) != Healthy(votes, turned) {
				t.Fatalf("%d of %v and %v", votes, l, turned)
			}
		}
		if !slices.Equal(l, kept) {
			t.Fatal("changed")
		}
	})
}
