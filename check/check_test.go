package check

import (
	"math"
	"math/rand"
	"slices"
	"strconv"
	"testing"

	"watchkeeper/api"
	"watchkeeper/matrix"
)

const text = `watch 2 5 20 10
key 0123456789abcdef
device d0 0 1
device d1 2 1
device d2 0 2
device d3 3 7
point p0 d2 9 1 5 0
point p1 d0 3 1 7 0
point p2 d0 9 1 0 900
point p3 d2 8 1 1 0
point p4 d3 255 0 2 0
point p5 d3 0 0 3 0
cause c0 1 a 0 p1
cause c1 1 a 0 p5 p3 p0
cause c2 1 a 0 p1 p2
effect e0 d1 0 1 c2 c0
effect e1 d0 0 1 c1
effect e2 d2 0 1 c0
`

func parsed(t *testing.T) api.Matrix {
	m, err, no := matrix.Parse(text)
	if err != api.OK {
		t.Fatal(err, no)
	}
	return m
}

func TestPolls(t *testing.T) {
	m := parsed(t)
	want := []api.Poll{{Device: 0, From: 3, Many: 7}, {Device: 2, From: 8, Many: 2}, {Device: 3, From: 0, Many: 256}}
	if l := Polls(m); !slices.Equal(l, want) {
		t.Error(l)
	}
	m.Points, m.Causes, m.Effects = nil, nil, nil
	if l := Polls(m); len(l) != 0 {
		t.Error(l)
	}
}

func TestRows(t *testing.T) {
	m := parsed(t)
	for i, c := range []struct{ got, want []int }{
		{Effects(m, 0), []int{0, 2}}, {Effects(m, 1), []int{1}}, {Effects(m, 2), []int{0}}, {Effects(m, 3), nil}, {Effects(m, -1), nil}, {Effects(m, math.MaxInt), nil},
		{Causes(m, 0), []int{1}}, {Causes(m, 1), []int{0, 2}}, {Causes(m, 2), []int{2}}, {Causes(m, 4), nil}, {Causes(m, 6), nil}, {Causes(m, -1), nil},
		{On(m, 0), []int{1, 2}}, {On(m, 1), nil}, {On(m, 2), []int{0}}, {On(m, 3), nil}, {On(m, 4), nil}, {On(m, -1), nil},
	} {
		if !slices.Equal(c.got, c.want) {
			t.Errorf("%d: %v, not %v", i, c.got, c.want)
		}
	}
}

func TestBounds(t *testing.T) {
	m := parsed(t)
	// J is 3 (4 + 2 * 3 + 2) = 36, each of which takes 3 * 5 + 1 = 16.
	for cause, want := range []int64{20 + 10 + 7 + 8 + 36*16, 20 + 10 + 5 + 8 + 36*16, 20 + 10 + 7 + 8 + 36*16} {
		if n := Bound(m, cause); n != want {
			t.Errorf("%d: %d, not %d", cause, n, want)
		}
	}
	for _, cause := range []int{-1, 3, math.MinInt, math.MaxInt} {
		if n := Bound(m, cause); n != 0 {
			t.Errorf("%d: %d", cause, n)
		}
	}
	if n := Age(m); n != 20+10+12*16 {
		t.Error(n)
	}
	least := api.Matrix{Wait: 1, Cycle: 1, Key: m.Key}
	if n := Age(least); n != 1+2*2 {
		t.Error(n)
	}
	m.Retries, m.Wait = 7, 1000
	if n := Age(m); n != 20+10+12*8001 {
		t.Error(n)
	}
}

func TestNotRight(t *testing.T) {
	for i, change := range []func(*api.Matrix){
		func(m *api.Matrix) { *m = api.Matrix{} },
		func(m *api.Matrix) { m.Wait = 0 },
		func(m *api.Matrix) { m.Effects[2].Name = "c0" },
		func(m *api.Matrix) { m.Points[0].Device = 9 },
		func(m *api.Matrix) { m.Causes[0].Points = []int{77} },
		func(m *api.Matrix) { m.Effects[0].Device = -1 },
	} {
		m := parsed(t)
		change(&m)
		if len(Polls(m)) != 0 || len(Effects(m, 0)) != 0 || len(Causes(m, 1)) != 0 || len(On(m, 0)) != 0 || Bound(m, 0) != 0 || Age(m) != 0 {
			t.Errorf("%d has something", i)
		}
	}
}

func random(r *rand.Rand) api.Matrix {
	m := api.Matrix{Retries: r.Int63n(8), Wait: 1 + r.Int63n(9), Back: r.Int63n(9), Cycle: 1 + r.Int63n(9), Key: "0123456789abcdef"}
	for i := range 1 + r.Intn(4) {
		m.Devices = append(m.Devices, api.Device{Name: "d" + strconv.Itoa(i), Line: r.Intn(4), Unit: 1 + i})
	}
	places := r.Perm(256)
	for i := range 1 + r.Intn(16) {
		m.Points = append(m.Points, api.Point{Name: "p" + strconv.Itoa(i), Device: r.Intn(len(m.Devices)), Place: places[i], On: r.Int63n(50)})
	}
	for i := range 1 + r.Intn(8) {
		m.Causes = append(m.Causes, api.Cause{Name: "c" + strconv.Itoa(i), Votes: 1, Lamp: 1, Points: r.Perm(len(m.Points))[:min(len(m.Points), 1+r.Intn(4))]})
	}
	for i := range r.Intn(9) {
		m.Effects = append(m.Effects, api.Effect{Name: "e" + strconv.Itoa(i), Device: r.Intn(len(m.Devices)), Place: i, Causes: r.Perm(len(m.Causes))[:1+r.Intn(len(m.Causes))]})
	}
	return m
}

// TestWhatAllComesTo: polls hold just what points there are; rows are of those that say so, each effect on one line.
func TestWhatAllComesTo(t *testing.T) {
	r := rand.New(rand.NewSource(1))
	for range 500 {
		m := random(r)
		if !matrix.Right(m) {
			t.Fatalf("%+v", m)
		}
		polls := Polls(m)
		if !slices.IsSortedFunc(polls, func(a, b api.Poll) int { return a.Device - b.Device }) {
			t.Fatal(polls)
		}
		ends := map[[2]int]bool{}
		of := map[int]api.Poll{}
		for _, p := range polls {
			of[p.Device] = p
		}
		if len(of) != len(polls) {
			t.Fatal(polls)
		}
		for _, p := range m.Points {
			poll := of[p.Device]
			if p.Place < poll.From || p.Place >= poll.From+poll.Many {
				t.Fatalf("%v is not in %v", p, poll)
			}
			ends[[2]int{p.Device, p.Place}] = true
		}
		for _, p := range polls {
			if !ends[[2]int{p.Device, p.From}] || !ends[[2]int{p.Device, p.From + p.Many - 1}] {
				t.Fatalf("%v of %v", p, m.Points)
			}
		}
		checkRows(t, m)
	}
}

func checkRows(t *testing.T, m api.Matrix) {
	lines := make([]int, len(m.Effects))
	for line := range 4 {
		l := On(m, line)
		if !slices.IsSorted(l) {
			t.Fatal(l)
		}
		for _, e := range l {
			lines[e]++
			if m.Devices[m.Effects[e].Device].Line != line {
				t.Fatal(e, line)
			}
		}
	}
	for e, n := range lines {
		if n != 1 {
			t.Fatalf("the effect %d stands on %d lines", e, n)
		}
	}
	for c := range m.Causes {
		l := Effects(m, c)
		for e := range m.Effects {
			if slices.Contains(l, e) != slices.Contains(m.Effects[e].Causes, c) {
				t.Fatal(c, e, l)
			}
		}
		if !slices.IsSorted(l) {
			t.Fatal(l)
		}
	}
	for p := range m.Points {
		l := Causes(m, p)
		for c := range m.Causes {
			if slices.Contains(l, c) != slices.Contains(m.Causes[c].Points, p) {
				t.Fatal(p, c, l)
			}
		}
		if !slices.IsSorted(l) {
			t.Fatal(l)
		}
	}
}
