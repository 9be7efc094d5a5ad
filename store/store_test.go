package store

import (
	"bytes"
	"math"
	"math/rand"
	"slices"
	"testing"

	"watchkeeper/api"
	"watchkeeper/log"
	"watchkeeper/sector"
)

const top = 1 << 41

func same(a, b api.State) bool {
	return slices.Equal(a.Causes, b.Causes) && slices.Equal(a.Effects, b.Effects) && slices.Equal(a.Ends, b.Ends)
}

func zero(x api.State) bool { return same(x, api.State{}) }

func set(at int64, first bool) api.Latch { return api.Latch{Set: true, At: at, First: first} }

func randomAt(r *rand.Rand) int64 {
	switch r.Intn(4) {
	case 0:
		return 0
	case 1:
		return top
	}
	return r.Int63n(top)
}

func latches(r *rand.Rand, n int) []api.Latch {
	l := make([]api.Latch, n)
	for i := range l {
		if r.Intn(2) == 0 {
			l[i] = set(randomAt(r), r.Intn(2) == 0)
		}
	}
	return l
}

func randomState(r *rand.Rand, causes, effects int) api.State {
	x := api.State{Causes: latches(r, causes), Effects: latches(r, effects), Ends: make([]int64, causes)}
	for i := range x.Ends {
		x.Ends[i] = randomAt(r)
	}
	return x
}

func randomNotes(r *rand.Rand, n int) []api.Note {
	l := make([]api.Note, n)
	for i := range l {
		l[i] = api.Note{Kind: 1 + r.Intn(7), Who: r.Intn(256), At: randomAt(r)}
	}
	return l
}

func TestBytes(t *testing.T) {
	x := api.State{
		Causes:  []api.Latch{set(0x01ff03040506, true), {}},
		Effects: []api.Latch{set(7, false)},
		Ends:    []int64{0, 258},
	}
	want := []byte{2, 1, 3, 1, 255, 3, 4, 5, 6, 0, 0, 0, 0, 0, 0, 0, 1, 0, 0, 0, 0, 0, 7, 0, 0, 0, 0, 0, 0, 0, 0, 0, 0, 1, 2, 1, 6, 255, 0, 0, 0, 0, 1, 0}
	l := []api.Note{{Kind: 6, Who: 255, At: 256}}
	if b := Bytes(x, l); !bytes.Equal(b, want) {
		t.Errorf("%x, not %x", b, want)
	}
	if g, n, is := Read(want); !same(g, x) || !slices.Equal(n, l) || !is {
		t.Error(g, n, is)
	}
	if b := Bytes(api.State{}, nil); !bytes.Equal(b, []byte{0, 0, 0}) {
		t.Errorf("%x", b)
	}
	if g, n, is := Read([]byte{0, 0, 0}); !zero(g) || len(n) != 0 || !is {
		t.Error(g, n, is)
	}
}

func TestNotRight(t *testing.T) {
	good := func() api.State {
		return api.State{Causes: make([]api.Latch, 2), Effects: make([]api.Latch, 2), Ends: make([]int64, 2)}
	}
	for i, change := range []func(*api.State){
		func(x *api.State) { x.Causes = make([]api.Latch, 9); x.Ends = make([]int64, 9) },
		func(x *api.State) { x.Effects = make([]api.Latch, 9) },
		func(x *api.State) { x.Ends = x.Ends[1:] },
		func(x *api.State) { x.Ends = append(x.Ends, 0) },
		func(x *api.State) { x.Ends = nil },
		func(x *api.State) { x.Causes[1].At = 1 },
		func(x *api.State) { x.Causes[1].First = true },
		func(x *api.State) { x.Effects[1].First = true },
		func(x *api.State) { x.Causes[1] = set(-1, false) },
		func(x *api.State) { x.Effects[1] = set(top+1, false) },
		func(x *api.State) { x.Effects[1] = set(math.MaxInt64, false) },
		func(x *api.State) { x.Ends[1] = -1 },
		func(x *api.State) { x.Ends[1] = top + 1 },
	} {
		x := good()
		change(&x)
		if len(Bytes(x, nil)) != 0 {
			t.Errorf("%d is right", i)
		}
	}
	for _, n := range []api.Note{{}, {Kind: 8}, {Kind: -1}, {Kind: 1, Who: -1}, {Kind: 1, Who: 256}, {Kind: 1, At: -1}, {Kind: 7, At: top + 1}, {Kind: math.MaxInt}} {
		if len(Bytes(good(), []api.Note{{Kind: 1}, n})) != 0 {
			t.Errorf("%v is right", n)
		}
	}
	if len(Bytes(good(), slices.Repeat([]api.Note{{Kind: 1}}, 33))) != 0 {
		t.Error("33 notes are right")
	}
	if len(Bytes(good(), slices.Repeat([]api.Note{{Kind: 1}}, 32))) == 0 {
		t.Error("32 notes are not right")
	}
}

func TestThereAndBack(t *testing.T) {
	r := rand.New(rand.NewSource(1))
	for range 3000 {
		x, l := randomState(r, r.Intn(9), r.Intn(9)), randomNotes(r, r.Intn(33))
		b := Bytes(x, l)
		if len(b) < 3 || len(b) > api.MaxRecord || len(b) != 3+13*len(x.Causes)+7*len(x.Effects)+8*len(l) {
			t.Fatalf("%v %v: %d", x, l, len(b))
		}
		if g, n, is := Read(b); !same(g, x) || !slices.Equal(n, l) || !is {
			t.Fatalf("%x: %v %v %v", b, g, n, is)
		}
	}
}

// TestSpoiled: bytes that are spoiled are those of what they say, or say nothing.
func TestSpoiled(t *testing.T) {
	r := rand.New(rand.NewSource(2))
	none := 0
	for range 20000 {
		b := Bytes(randomState(r, r.Intn(9), r.Intn(9)), randomNotes(r, r.Intn(4)))
		switch r.Intn(3) {
		case 0:
			b = b[:r.Intn(len(b))]
		case 1:
			b = append(b, byte(r.Intn(2)))
		case 2:
			b[r.Intn(len(b))] ^= 1 << r.Intn(8)
		}
		x, l, is := Read(b)
		if !is {
			none++
			if !zero(x) || len(l) != 0 {
				t.Fatalf("%x: %v %v", b, x, l)
			}
		} else if !bytes.Equal(Bytes(x, l), b) {
			t.Fatalf("%x: %v %v", b, x, l)
		}
	}
	if none < 10000 {
		t.Error(none)
	}
	for _, b := range [][]byte{nil, {}, {0}, {0, 0}, {0, 0, 1}, {0, 0, 0, 0}, {9, 0, 0}, {0, 0, 33}, {1, 0, 2, 0, 0, 0, 0, 0, 0, 0, 0, 0, 0, 0, 0, 0}, {0, 1, 4, 0, 0, 0, 0, 0, 0, 0}, {0, 1, 0, 0, 0, 0, 0, 0, 1, 0}, {0, 1, 1, 2, 0, 0, 0, 0, 1, 0}, {255, 255, 255}} {
		if x, l, is := Read(b); is || !zero(x) || len(l) != 0 {
			t.Errorf("%x: %v %v %v", b, x, l, is)
		}
	}
}

func opened(t *testing.T, d *sector.Disk, causes, effects int, want api.State, notes []api.Note) *Store {
	t.Helper()
	s, x, l, err := Open(d, causes, effects)
	if err != api.OK || !same(x, want) || !slices.Equal(l, notes) || !slices.Equal(s.Notes(), notes) {
		t.Fatalf("%v: %v %v, not %v %v", err, x, l, want, notes)
	}
	return s
}

func empty(causes, effects int) api.State {
	return api.State{Causes: make([]api.Latch, causes), Effects: make([]api.Latch, effects), Ends: make([]int64, causes)}
}

func failed(t *testing.T, d *sector.Disk, causes, effects int, want api.Errno) {
	t.Helper()
	if s, x, l, err := Open(d, causes, effects); s != nil || !zero(x) || len(l) != 0 || err != want {
		t.Fatalf("%v %v %v %v, not %v", s, x, l, err, want)
	}
}

func TestOpen(t *testing.T) {
	d := sector.New(20)
	for _, c := range [][2]int{{-1, 0}, {9, 0}, {0, -1}, {0, 9}, {math.MaxInt, 1}, {1, math.MinInt}} {
		failed(t, d, c[0], c[1], api.ErrArg)
	}
	opened(t, d, 8, 8, empty(8, 8), nil)
	opened(t, d, 0, 0, empty(0, 0), nil)
	d.Cut(0, 0)
	d.Write(0, nil)
	failed(t, d, 1, 1, api.ErrDown)
	failed(t, d, 9, 1, api.ErrArg)
	d.Boot()
	s := opened(t, d, 2, 1, empty(2, 1), nil)
	x := empty(2, 1)
	x.Causes[1] = set(5, true)
	if err := s.Put(x, []api.Note{{Kind: 1, Who: 1, At: 5}}); err != api.OK {
		t.Fatal(err)
	}
	opened(t, d, 2, 1, x, []api.Note{{Kind: 1, Who: 1, At: 5}})
	for _, c := range [][2]int{{1, 1}, {2, 0}, {1, 2}, {3, 1}} {
		failed(t, d, c[0], c[1], api.ErrStore)
	}
	l, _, _ := log.Open(d)
	l.Add([]byte{2, 1})
	failed(t, d, 2, 1, api.ErrStore)
	l.Add(Bytes(x, nil))
	failed(t, d, 2, 1, api.ErrStore)
	l.Compact(Bytes(x, nil))
	opened(t, d, 2, 1, x, nil)
}

func TestPut(t *testing.T) {
	d := sector.New(64)
	s := opened(t, d, 2, 1, empty(2, 1), nil)
	good := empty(2, 1)
	bad := empty(2, 1)
	bad.Ends[0] = -1
	writes := d.Writes()
	for i, c := range []struct {
		x api.State
		l []api.Note
	}{{bad, nil}, {good, []api.Note{{}}}, {good, slices.Repeat([]api.Note{{Kind: 1}}, 33)}, {empty(1, 1), nil}, {empty(2, 2), nil}, {api.State{}, nil}} {
		if err := s.Put(c.x, c.l); err != api.ErrArg {
			t.Errorf("%d: %v", i, err)
		}
	}
	if len(s.Notes()) != 0 || d.Writes() != writes {
		t.Error("an error changed something")
	}
	var all []api.Note
	for i := range 300 {
		good.Causes[0] = set(int64(i), i%2 == 0)
		good.Ends[1] = int64(1000 + i)
		l := make([]api.Note, i%4)
		for k := range l {
			l[k] = api.Note{Kind: 1 + k, Who: i % 256, At: int64(i)}
		}
		if i%50 == 0 {
			l = slices.Repeat([]api.Note{{Kind: 7, Who: 1, At: int64(i)}}, 32)
		}
		if err := s.Put(good, l); err != api.OK {
			t.Fatal(i, err)
		}
		all = append(all, l...)
		last := all[max(0, len(all)-32):]
		if !slices.Equal(s.Notes(), last) {
			t.Fatalf("%d: %v, not %v", i, s.Notes(), last)
		}
		if i%3 == 0 {
			s = opened(t, d, 2, 1, good, last)
		} else {
			opened(t, d, 2, 1, good, last)
		}
	}
}

// TestRecords: what is put stands behind what stood, and in its place, when there is no more room.
func TestRecords(t *testing.T) {
	d := sector.New(6)
	s := opened(t, d, 0, 0, empty(0, 0), nil)
	var notes []api.Note
	for i := range 3 {
		n := api.Note{Kind: 1, Who: i}
		notes = append(notes, n)
		s.Put(api.State{}, []api.Note{n})
		l, records, _ := log.Open(d)
		if len(records) != i+1 || l.Turn() != 1 || !bytes.Equal(records[i], Bytes(api.State{}, []api.Note{n})) {
			t.Fatal(i, records)
		}
	}
	notes = append(notes, api.Note{Kind: 2})
	if err := s.Put(api.State{}, notes[3:]); err != api.OK {
		t.Fatal(err)
	}
	l, records, _ := log.Open(d)
	if len(records) != 1 || l.Turn() != 2 || !bytes.Equal(records[0], Bytes(api.State{}, notes)) {
		t.Fatal(records)
	}
}

func TestNoRoom(t *testing.T) {
	for many := 1; many < 20; many++ {
		d := sector.New(many)
		s := opened(t, d, 8, 8, empty(8, 8), nil)
		x := empty(8, 8)
		x.Causes[0] = set(1, false)
		// 163 bytes without notes are three sectors; each seven notes are one more.
		for i := range 40 {
			before := s.Notes()
			err := s.Put(x, []api.Note{{Kind: 1, Who: i, At: 1}})
			if err == api.ErrFull {
				if !slices.Equal(s.Notes(), before) {
					t.Fatal("notes are kept of what was not put")
				}
				continue
			}
			if err != api.OK || many < 8 {
				t.Fatal(many, i, err)
			}
			opened(t, d, 8, 8, x, s.Notes())
		}
		if many < 8 {
			opened(t, d, 8, 8, empty(8, 8), nil)
		}
	}
}

// TestStands: behind whatever fails there is the state, and the notes, of the last that was put, or of the one in flight.
func TestStands(t *testing.T) {
	for seed := range 80 {
		r := rand.New(rand.NewSource(int64(seed)))
		d := sector.New(10 + r.Intn(60))
		causes, effects := r.Intn(9), r.Intn(9)
		x, notes := empty(causes, effects), []api.Note(nil)
		s := opened(t, d, causes, effects, x, notes)
		for range 200 {
			if r.Intn(4) == 0 {
				d.Cut(r.Intn(9), r.Intn(65))
			}
			next, l := randomState(r, causes, effects), randomNotes(r, r.Intn(5))
			all := append(slices.Clone(notes), l...)
			all = all[max(0, len(all)-32):]
			switch err := s.Put(next, l); err {
			case api.OK:
				x, notes = next, all
			case api.ErrFull:
			case api.ErrDown:
				if !slices.Equal(s.Notes(), notes) {
					t.Fatal("notes are kept of what failed")
				}
				d.Boot()
				var g api.State
				var n []api.Note
				s, g, n, err = Open(d, causes, effects)
				was, is := same(g, x) && slices.Equal(n, notes), same(g, next) && slices.Equal(n, all)
				if err != api.OK || !was && !is {
					t.Fatalf("%d: %v %v %v", seed, g, n, err)
				}
				x, notes = g, n
			default:
				t.Fatal(err)
			}
			opened(t, d, causes, effects, x, notes)
		}
	}
}

func TestMemory(t *testing.T) {
	d := sector.New(20)
	s := opened(t, d, 1, 1, empty(1, 1), nil)
	room := []api.Note{{Kind: 1, Who: 1}, {Kind: 2, Who: 2}}
	x := empty(1, 1)
	s.Put(x, room[:1])
	room[0].Who = 99
	if s.Notes()[0].Who != 1 || room[1] != (api.Note{Kind: 2, Who: 2}) {
		t.Error("notes are kept by their memory")
	}
	s.Notes()[0].Who = 98
	if s.Notes()[0].Who != 1 {
		t.Error("notes share memory")
	}
	_, g, l, _ := Open(d, 1, 1)
	l[0].Who, g.Causes[0].At = 97, 97
	if _, g, l, _ := Open(d, 1, 1); l[0].Who != 1 || g.Causes[0].At != 0 {
		t.Error("what is opened shares memory")
	}
	s2, _, l, _ := Open(d, 1, 1)
	l[0].Who = 96
	if s2.Notes()[0].Who != 1 {
		t.Error("what is opened is kept by its memory")
	}
}
