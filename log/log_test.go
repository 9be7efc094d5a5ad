package log

import (
	"bytes"
	"fmt"
	"math/rand"
	"slices"
	"testing"

	"watchkeeper/api"
	"watchkeeper/crc"
	"watchkeeper/sector"
)

func rec(seed, n int) []byte {
	b := make([]byte, n)
	for i := range b {
		b[i] = byte(seed*31 + i*7)
	}
	return b
}

func same(a, b [][]byte) bool { return slices.EqualFunc(a, b, bytes.Equal) }

// opened is a log that must be there, with these records.
func opened(t *testing.T, d *sector.Disk, want ...[]byte) *Log {
	t.Helper()
	l, records, err := Open(d)
	if err != api.OK || !same(records, want) {
		t.Fatalf("%v: %d records, not %d", err, len(records), len(want))
	}
	return l
}

func is(t *testing.T, got, want api.Errno) {
	t.Helper()
	if got != want {
		t.Fatalf("%v, not %v", got, want)
	}
}

func state(t *testing.T, l *Log, turn, room int) {
	t.Helper()
	if l.Turn() != turn || l.Room() != room {
		t.Fatalf("turn %d, room %d, not %d, %d", l.Turn(), l.Room(), turn, room)
	}
}

// one is a sector as the chapter tells it.
func one(turn, which, many int, part []byte) []byte {
	s := append([]byte{87, byte(turn / 256), byte(turn % 256), byte(which), byte(many), byte(len(part))}, part...)
	for len(s) < 62 {
		s = append(s, 0)
	}
	sum := crc.Sum(s)
	return append(s, byte(sum%256), byte(sum/256))
}

func stands(t *testing.T, d *sector.Disk, i int, want []byte) {
	t.Helper()
	if b, err := d.Read(i); err != api.OK || !bytes.Equal(b, want) {
		t.Fatalf("%d: %x, not %x", i, b, want)
	}
}

func TestSectors(t *testing.T) {
	d := sector.New(21)
	l := opened(t, d)
	state(t, l, 1, 10)
	a, b, c := rec(1, 1), rec(2, 56), rec(3, 57)
	is(t, l.Add(a), api.OK)
	is(t, l.Add(b), api.OK)
	is(t, l.Add(c), api.OK)
	state(t, l, 1, 6)
	stands(t, d, 0, one(1, 0, 1, a))
	stands(t, d, 1, one(1, 0, 1, b))
	stands(t, d, 2, one(1, 0, 2, c[:56]))
	stands(t, d, 3, one(1, 1, 2, c[56:]))
	if d.Writes() != 4 {
		t.Error(d.Writes())
	}
	state(t, opened(t, d, a, b, c), 1, 6)
	long := rec(4, 448)
	is(t, l.Compact(long), api.OK)
	state(t, l, 2, 2)
	for i := range 8 {
		stands(t, d, 10+i, one(2, i, 8, long[56*i:56*i+56]))
	}
	stands(t, d, 0, one(1, 0, 1, a))
	state(t, opened(t, d, long), 2, 2)
	is(t, l.Add(a), api.OK)
	is(t, l.Compact(b), api.OK)
	state(t, l, 3, 9)
	stands(t, d, 0, one(3, 0, 1, b))
	stands(t, d, 20, make([]byte, 64))
	state(t, opened(t, d, b), 3, 9)
}

func TestErrors(t *testing.T) {
	d := sector.New(16)
	l := opened(t, d)
	for _, n := range []int{0, 449, 5000} {
		is(t, l.Add(make([]byte, n)), api.ErrArg)
		is(t, l.Compact(make([]byte, n)), api.ErrArg)
	}
	is(t, l.Add(nil), api.ErrArg)
	is(t, l.Add(rec(1, 392)), api.OK)
	state(t, l, 1, 1)
	is(t, l.Add(rec(2, 57)), api.ErrFull)
	is(t, l.Add(rec(2, 0)), api.ErrArg)
	state(t, l, 1, 1)
	is(t, l.Add(rec(2, 56)), api.OK)
	state(t, l, 1, 0)
	is(t, l.Add(rec(3, 1)), api.ErrFull)
	is(t, l.Compact(rec(3, 448)), api.OK)
	state(t, l, 2, 0)
	d.Cut(0, 0)
	is(t, l.Compact(rec(4, 5)), api.ErrDown)
	state(t, l, 2, 0)
	is(t, l.Add(rec(4, 5)), api.ErrFull)
	is(t, l.Add(nil), api.ErrArg)
	is(t, l.Compact(nil), api.ErrArg)
	is(t, l.Compact(rec(4, 5)), api.ErrDown)
	if l, records, err := Open(d); l != nil || len(records) != 0 || err != api.ErrDown {
		t.Error(l, records, err)
	}
	d.Boot()
	opened(t, d, rec(3, 448))
}

func TestSmallDisks(t *testing.T) {
	for many := 1; many < 40; many++ {
		d := sector.New(many)
		l := opened(t, d)
		state(t, l, 1, many/2)
		for n := 1; n <= 448; n += 55 {
			want := api.OK
			if (n+55)/56 > many/2 {
				want = api.ErrFull
			}
			is(t, opened(t, sector.New(many)).Add(rec(1, n)), want)
			is(t, opened(t, sector.New(many)).Compact(rec(1, n)), want)
		}
		state(t, l, 1, many/2)
	}
}

// TestLastTurn: a log of the last turn is compacted no more.
func TestLastTurn(t *testing.T) {
	d := sector.New(4)
	d.Write(0, one(65534, 0, 1, rec(1, 3)))
	d.Write(2, one(9, 0, 1, rec(2, 3)))
	l := opened(t, d, rec(1, 3))
	state(t, l, 65534, 1)
	is(t, l.Compact(rec(5, 7)), api.OK)
	state(t, l, 65535, 1)
	is(t, l.Compact(rec(6, 7)), api.ErrFull)
	is(t, l.Compact(nil), api.ErrArg)
	is(t, l.Add(rec(6, 7)), api.OK)
	state(t, opened(t, d, rec(5, 7), rec(6, 7)), 65535, 0)
}

// TestWhichHalf: of the halves that have records that of the greater turn is taken.
func TestWhichHalf(t *testing.T) {
	a, b := rec(1, 3), rec(2, 4)
	for _, c := range []struct {
		first, second int
		want          []byte
		turn          int
	}{
		{0, 0, nil, 1}, {5, 0, a, 5}, {0, 5, b, 5}, {5, 6, b, 6}, {6, 5, a, 6}, {5, 5, a, 5}, {0, 65535, b, 65535}, {1, 1, a, 1}, {256, 255, a, 256},
	} {
		d := sector.New(5)
		d.Write(0, one(c.first, 0, 1, a))
		d.Write(2, one(c.second, 0, 1, b))
		l, records, err := Open(d)
		want := [][]byte{c.want}
		room := 1
		if c.want == nil {
			want, room = nil, 2
		}
		if err != api.OK || !same(records, want) {
			t.Errorf("%v: %v %v", c, records, err)
		}
		state(t, l, c.turn, room)
	}
	// Records of a turn that is greater, behind one that is less, are none.
	d := sector.New(8)
	d.Write(0, one(3, 0, 1, a))
	d.Write(1, one(9, 0, 1, b))
	d.Write(2, one(3, 0, 1, b))
	d.Write(4, one(4, 0, 1, b))
	state(t, opened(t, d, b), 4, 3)
	d.Write(4, one(2, 0, 1, b))
	state(t, opened(t, d, a), 3, 3)
}

// TestNoSectors: what differs from a record's sectors in anything is none.
func TestNoSectors(t *testing.T) {
	a, b := rec(1, 3), rec(2, 60)
	seal := func(s []byte) []byte { return crc.Seal(s[:62]) }
	change := func(s []byte, i int, v byte) []byte {
		x := bytes.Clone(s)
		x[i] = v
		return seal(x)
	}
	first, second := one(1, 0, 2, b[:56]), one(1, 1, 2, b[56:])
	for name, rows := range map[string][][]byte{
		"a mark":           {change(one(1, 0, 1, a), 0, 86)},
		"the turn 0":       {one(0, 0, 1, a)},
		"which one":        {change(one(1, 0, 1, a), 3, 1)},
		"of none":          {change(one(1, 0, 1, a), 4, 0)},
		"of two":           {change(one(1, 0, 1, a), 4, 2)},
		"no bytes":         {change(one(1, 0, 1, a), 5, 0)},
		"more bytes":       {change(one(1, 0, 1, rec(1, 56)), 5, 57)},
		"a zero behind":    {change(one(1, 0, 1, a), 61, 1)},
		"less bytes":       {change(one(1, 0, 1, a), 5, 2)},
		"a sum":            {append(one(1, 0, 1, a)[:63], 1)},
		"just the first":   {first},
		"just the second":  {second},
		"turned round":     {second, first},
		"another turn":     {first, one(2, 1, 2, b[56:])},
		"a first not full": {one(1, 0, 2, b[:55]), one(1, 1, 2, b[55:])},
		"a last that is 0": {first, change(one(1, 1, 2, b[56:57]), 5, 0)},
		"of three":         {first, change(second, 4, 3)},
		"zeros":            {make([]byte, 64)},
		"all ones":         {bytes.Repeat([]byte{255}, 64)},
	} {
		d := sector.New(8)
		for i, s := range rows {
			d.Write(i, s)
		}
		l, records, err := Open(d)
		if err != api.OK || len(records) != 0 {
			t.Errorf("%s: %x %v", name, records, err)
			continue
		}
		state(t, l, 1, 4)
		d.Write(0, one(1, 0, 1, a))
		for i, s := range rows {
			d.Write(1+i, s)
		}
		state(t, opened(t, d, a), 1, 3)
	}
	d := sector.New(20)
	long := rec(7, 9*56)
	for i := range 9 {
		d.Write(i, one(1, i, 9, long[56*i:56*i+56]))
	}
	opened(t, d)
}

// TestTorn: power fails in each write of each record, with each number of bytes: it stands whole, or not at all.
func TestTorn(t *testing.T) {
	for _, size := range []int{1, 56, 57, 130} {
		for write := range (size + 55) / 56 {
			for n := range 65 {
				tornAdd(t, size, write, n)
				tornCompact(t, size, write, n)
			}
		}
	}
}

func tornAdd(t *testing.T, size, write, n int) {
	d := sector.New(20)
	l := opened(t, d)
	a, b, x := rec(1, 100), rec(2, 3), rec(3, size)
	l.Add(a)
	l.Add(b)
	room := l.Room()
	d.Cut(write, n)
	is(t, l.Add(x), api.ErrDown)
	state(t, l, 1, room)
	d.Boot()
	l, records, _ := Open(d)
	if !same(records, [][]byte{a, b}) && !(write == (size-1)/56 && same(records, [][]byte{a, b, x})) {
		t.Fatalf("%d %d %d: %d records", size, write, n, len(records))
	}
	if n == 64 && write == (size-1)/56 && len(records) != 3 {
		t.Fatal("it was written whole")
	}
	is(t, l.Add(b), api.OK)
	opened(t, d, append(records, b)...)
}

func tornCompact(t *testing.T, size, write, n int) {
	d := sector.New(20)
	l := opened(t, d)
	a, b, x := rec(1, 100), rec(2, 3), rec(3, size)
	for _, c := range [][]byte{b, a, b, x, rec(4, 400)} {
		is(t, l.Compact(c), api.OK)
	}
	is(t, l.Compact(a), api.OK)
	is(t, l.Add(b), api.OK)
	d.Cut(write, n)
	is(t, l.Compact(x), api.ErrDown)
	state(t, l, 7, 7)
	d.Boot()
	l, records, _ := Open(d)
	if !same(records, [][]byte{a, b}) && !(write == (size-1)/56 && same(records, [][]byte{x})) {
		t.Fatalf("%d %d %d: %d records", size, write, n, len(records))
	}
	is(t, l.Compact(b), api.OK)
	opened(t, d, b)
}

// TestStandsOrDoesNot: behind whatever fails the records are those that were added, and perhaps the one in flight.
func TestStandsOrDoesNot(t *testing.T) {
	for seed := range 60 {
		r := rand.New(rand.NewSource(int64(seed)))
		d := sector.New(2 + r.Intn(30))
		l := opened(t, d)
		var want [][]byte
		for i := range 400 {
			if r.Intn(5) == 0 {
				d.Cut(r.Intn(10), r.Intn(65))
			}
			x := rec(r.Intn(250), 1+r.Intn(448))
			if r.Intn(2) == 0 {
				x = x[:1+r.Intn(min(len(x), 60))]
			}
			does, next := l.Add, append(slices.Clone(want), x)
			if r.Intn(5) == 0 || l.Room() == 0 {
				does, next = l.Compact, [][]byte{x}
			}
			switch err := does(x); err {
			case api.OK:
				want = next
			case api.ErrDown:
				d.Boot()
				var records [][]byte
				l, records, _ = Open(d)
				if !same(records, want) && !same(records, next) {
					t.Fatal(describe(seed, i, records, want))
				}
				want = records
			case api.ErrFull:
			default:
				t.Fatal(err)
			}
			if _, records, err := Open(d); err != api.OK || !same(records, want) {
				t.Fatal(describe(seed, i, records, want))
			}
		}
	}
}

func describe(seed, i int, records, want [][]byte) string {
	return fmt.Sprintf("%d %d: %d records, not %d", seed, i, len(records), len(want))
}

func TestMemory(t *testing.T) {
	d := sector.New(8)
	l := opened(t, d)
	b := rec(1, 60)
	room := b[:10]
	is(t, l.Add(room), api.OK)
	b[0]++
	_, records, _ := Open(d)
	if bytes.Equal(records[0], room) || !bytes.Equal(b[1:], rec(1, 60)[1:]) {
		t.Error("what is added is kept by its memory")
	}
	is(t, l.Add(rec(2, 5)), api.OK)
	_, records, _ = Open(d)
	for i := range records[0][:cap(records[0])] {
		records[0][:cap(records[0])][i] = 99
	}
	if !bytes.Equal(records[1], rec(2, 5)) {
		t.Error("records share memory")
	}
	opened(t, d, rec(1, 10), rec(2, 5))
}
