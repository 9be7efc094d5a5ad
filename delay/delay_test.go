package delay

import (
	"math"
	"math/rand"
	"testing"
)

const top = 1 << 40

// step is a See, and what is to be known behind it.
type step struct {
	v     bool
	now   int64
	want  bool
	since int64 // -1: it has not seen the other value
}

func run(t *testing.T, name string, d *Delay, steps []step) {
	t.Helper()
	for i, s := range steps {
		got := d.See(s.v, s.now)
		since, is := d.Since()
		if got != s.want || d.Value() != s.want || is != (s.since >= 0) || since != max(0, s.since) {
			t.Errorf("%s, %d: %v %v, since %d %v", name, i, got, d.Value(), since, is)
		}
	}
}

func TestNew(t *testing.T) {
	d := New(3, 4)
	if since, is := d.Since(); d.Value() || since != 0 || is {
		t.Error(d.Value(), since, is)
	}
}

func TestSee(t *testing.T) {
	run(t, "on 3", New(3, 0), []step{{true, 5, false, 5}, {true, 7, false, 5}, {true, 8, true, -1}, {true, 9, true, -1}, {false, 10, false, -1}})
	run(t, "back in time", New(3, 0), []step{{true, 5, false, 5}, {true, 7, false, 5}, {false, 7, false, -1}, {true, 8, false, 8}, {true, 10, false, 8}, {true, 11, true, -1}})
	run(t, "off 4", New(0, 4), []step{{true, 5, true, -1}, {false, 6, true, 6}, {false, 9, true, 6}, {true, 9, true, -1}, {false, 9, true, 9}, {false, 13, false, -1}, {false, 14, false, -1}})
	run(t, "at once", New(0, 0), []step{{true, 0, true, -1}, {false, 0, false, -1}, {true, 0, true, -1}})
	run(t, "one", New(1, 1), []step{{true, 0, false, 0}, {true, 0, false, 0}, {true, 1, true, -1}, {false, 1, true, 1}, {false, 2, false, -1}})
	run(t, "skipped", New(3, 3), []step{{true, 1, false, 1}, {true, 100, true, -1}, {false, 200, true, 200}, {false, 203, false, -1}})
}

func TestTimes(t *testing.T) {
	run(t, "below 0", New(3, 3), []step{{true, -7, false, 0}, {true, -100, false, 0}, {true, 2, false, 0}, {true, 3, true, -1}})
	run(t, "falling", New(3, 3), []step{{true, 10, false, 10}, {true, 5, false, 10}, {true, 12, false, 10}, {true, 9, false, 10}, {true, 13, true, -1}})
	run(t, "falling of what counts", New(3, 3), []step{{false, 10, false, -1}, {true, 4, false, 10}, {true, 12, false, 10}, {true, 13, true, -1}})
	run(t, "too late", New(3, 3), []step{{true, top + 9, false, top}, {true, math.MaxInt64, false, top}, {false, 5, false, -1}, {true, 6, false, top}})
	run(t, "at the end", New(3, 0), []step{{true, top - 3, false, top - 3}, {true, math.MaxInt64, true, -1}, {false, math.MinInt64, false, -1}})
	run(t, "no times", New(-5, math.MinInt64), []step{{true, 1, true, -1}, {false, 1, false, -1}})
	run(t, "long times", New(math.MaxInt64, top+1), []step{{true, 0, false, 0}, {true, top - 1, false, 0}, {true, top, true, -1}, {false, top, true, top}, {false, math.MaxInt64, true, top}})
}

// TestStoodLongEnough: what counts turns just when all that was seen since long enough ahead was the other value.
func TestStoodLongEnough(t *testing.T) {
	r := rand.New(rand.NewSource(1))
	turned := 0
	for range 300 {
		on, off := r.Int63n(6), r.Int63n(6)
		d := New(on, off)
		counts, now := false, int64(0)
		var seen []step
		for range 100 {
			now += r.Int63n(3)
			v := r.Intn(4) > 0 == (now/16%2 == 0)
			seen = append(seen, step{v: v, now: now})
			need := off
			if v {
				need = on
			}
			// How long has it been seen so, without another one between?
			stood, since := int64(-1), now
			for i := len(seen) - 1; i >= 0 && seen[i].v == v && v != counts; i-- {
				since = seen[i].now
				stood = now - since
			}
			want := counts
			if stood >= need {
				want = v
				turned++
			}
			if d.See(v, now) != want {
				t.Fatalf("%d %d: %v", on, off, seen)
			}
			if want != counts {
				counts, seen = want, nil
			}
			got, is := d.Since()
			if is != (v != counts) || is && got != since || !is && got != 0 {
				t.Fatalf("%d %d: %v since %d %v", on, off, seen, got, is)
			}
		}
	}
	if turned < 1000 {
		t.Error(turned)
	}
}
