package lamp

import (
	"math"
	"math/rand"
	"testing"

	"watchkeeper/api"
)

const (
	quiet = iota
	fresh
	seen
	gone
	back
	ring
	lead
	leadSeen
	leadGone
)

// tables are S1 written out: of each kind (LampA to LampF3A), of each thing that happens (HapBad to HapReset), what each state comes to.
var tables = [6][5][9]int{
	{ // a
		{fresh, fresh, seen, fresh, fresh, fresh, lead, leadSeen, lead},
		{fresh, fresh, seen, fresh, fresh, fresh, lead, leadSeen, lead},
		{quiet, gone, quiet, gone, back, ring, leadGone, quiet, leadGone},
		{quiet, seen, seen, quiet, back, ring, leadSeen, leadSeen, quiet},
		{quiet, fresh, seen, gone, quiet, quiet, lead, leadSeen, leadGone},
	},
	{ // m
		{fresh, fresh, seen, fresh, fresh, fresh, lead, leadSeen, lead},
		{fresh, fresh, seen, fresh, fresh, fresh, lead, leadSeen, lead},
		{quiet, gone, back, gone, back, ring, leadGone, back, leadGone},
		{quiet, seen, seen, back, back, ring, leadSeen, leadSeen, back},
		{quiet, fresh, seen, gone, quiet, quiet, lead, leadSeen, leadGone},
	},
	{ // r
		{fresh, fresh, seen, fresh, fresh, fresh, lead, leadSeen, lead},
		{fresh, fresh, seen, fresh, fresh, fresh, lead, leadSeen, lead},
		{quiet, gone, ring, gone, back, ring, leadGone, ring, leadGone},
		{quiet, seen, seen, ring, back, ring, leadSeen, leadSeen, ring},
		{quiet, fresh, seen, gone, quiet, quiet, lead, leadSeen, leadGone},
	},
	{ // f1a
		{fresh, fresh, seen, fresh, fresh, fresh, lead, leadSeen, lead},
		{lead, lead, seen, lead, lead, lead, lead, leadSeen, lead},
		{quiet, gone, quiet, gone, back, ring, leadGone, quiet, leadGone},
		{quiet, seen, seen, quiet, back, ring, leadSeen, leadSeen, quiet},
		{quiet, fresh, seen, gone, quiet, quiet, lead, leadSeen, leadGone},
	},
	{ // f2m
		{seen, fresh, seen, fresh, seen, seen, lead, leadSeen, lead},
		{lead, lead, seen, lead, lead, lead, lead, leadSeen, lead},
		{quiet, gone, back, gone, back, ring, leadGone, back, leadGone},
		{quiet, seen, seen, back, back, ring, leadSeen, leadSeen, back},
		{quiet, fresh, seen, gone, quiet, quiet, lead, leadSeen, leadGone},
	},
	{ // f3a
		{seen, fresh, seen, fresh, seen, seen, lead, leadSeen, lead},
		{lead, lead, seen, lead, lead, lead, lead, leadSeen, lead},
		{quiet, gone, quiet, gone, back, ring, leadGone, quiet, leadGone},
		{quiet, seen, seen, quiet, back, ring, leadSeen, leadSeen, quiet},
		{quiet, fresh, seen, gone, quiet, quiet, lead, leadSeen, leadGone},
	},
}

func TestNext(t *testing.T) {
	for k, kind := range tables {
		for h, row := range kind {
			for s, want := range row {
				if got := Next(k+1, s, h+1); got != want {
					t.Errorf("kind %d, state %d, happens %d: %d, not %d", k+1, s, h+1, got, want)
				}
			}
		}
	}
}

func TestNextOfNone(t *testing.T) {
	wrong := []int{math.MinInt, -1, 0, math.MaxInt}
	for _, kind := range append(wrong, 7) {
		for s := range 9 {
			for hap := range 7 {
				if Next(kind, s, hap) != quiet {
					t.Errorf("kind %d, state %d, happens %d", kind, s, hap)
				}
			}
		}
	}
	for kind := 1; kind <= 6; kind++ {
		for _, s := range []int{math.MinInt, -1, 9, math.MaxInt} {
			for hap := range 7 {
				if Next(kind, s, hap) != quiet {
					t.Errorf("kind %d, state %d, happens %d", kind, s, hap)
				}
			}
		}
		for s := range 9 {
			for _, hap := range append(wrong, 6) {
				if Next(kind, s, hap) != s {
					t.Errorf("kind %d, state %d, happens %d", kind, s, hap)
				}
			}
		}
	}
}

func TestLookAndHorn(t *testing.T) {
	looks := [9]int{0, 2, 1, 2, 1, 3, 4, 1, 4}
	horns := [9]int{0, 1, 0, 1, 0, 2, 1, 0, 1}
	for s := -3; s < 15; s++ {
		look, horn := 0, 0
		if s >= 0 && s < 9 {
			look, horn = looks[s], horns[s]
		}
		if Look(s) != look || Horn(s) != horn {
			t.Errorf("%d: %d %d", s, Look(s), Horn(s))
		}
	}
	for _, s := range []int{math.MinInt, math.MaxInt} {
		if Look(s) != 0 || Horn(s) != 0 {
			t.Error(s)
		}
	}
}

func TestOfTheDocument(t *testing.T) {
	s := quiet
	for i, want := range []int{fresh, gone, quiet} {
		if s = Next(api.LampA, s, []int{api.HapBad, api.HapWell, api.HapAck}[i]); s != want {
			t.Error(i, s)
		}
	}
	if Look(gone) != api.LookFast {
		t.Error("one that nobody saw, and is well again, does not flash on")
	}
}

// TestFromQuiet: a lamp that was quiet at first is quiet behind HapWell, HapAck and HapReset alone; what is not well is told; when all is well one HapAck and one HapReset have it be quiet; those of a, m, r never look as a first one.
func TestFromQuiet(t *testing.T) {
	r := rand.New(rand.NewSource(1))
	for kind := 1; kind <= 6; kind++ {
		for range 300 {
			s, isBad := quiet, false
			for range 60 {
				hap := r.Intn(8)
				before := s
				s = Next(kind, s, hap)
				switch hap {
				case api.HapBad, api.HapFirst:
					isBad = true
				case api.HapWell:
					isBad = false
				}
				if s == quiet && before != quiet && (hap < api.HapWell || hap > api.HapReset) {
					t.Fatalf("kind %d: %d has it be quiet", kind, hap)
				}
				if isBad && Look(s) == api.LookOff {
					t.Fatalf("kind %d: not told", kind)
				}
				if kind <= 3 && (s >= lead || Look(s) == api.LookFirst) {
					t.Fatalf("kind %d: %d", kind, s)
				}
				if !isBad && hap == api.HapWell {
					if end := Next(kind, Next(kind, s, api.HapAck), api.HapReset); end != quiet {
						t.Fatalf("kind %d: %d is not quiet", kind, end)
					}
				}
			}
		}
	}
}
