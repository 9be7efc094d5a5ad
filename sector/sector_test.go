package sector

import (
	"bytes"
	"math"
	"math/rand"
	"testing"

	"watchkeeper/api"
)

func TestNew(t *testing.T) {
	for many, want := range map[int]int{math.MinInt: 1, -1: 1, 0: 1, 1: 1, 2: 2, 255: 255, 256: 256, 257: 256, math.MaxInt: 256} {
		d := New(many)
		if d.Many() != want || d.Writes() != 0 || d.Down() {
			t.Errorf("%d: %d %d %v", many, d.Many(), d.Writes(), d.Down())
		}
		for _, i := range []int{0, want - 1} {
			if b, err := d.Read(i); err != api.OK || !bytes.Equal(b, make([]byte, 64)) {
				t.Errorf("%d: %x %v", i, b, err)
			}
		}
		for _, i := range []int{-1, want, math.MinInt, math.MaxInt} {
			if b, err := d.Read(i); err != api.ErrArg || len(b) != 0 {
				t.Errorf("%d: %x %v", i, b, err)
			}
			if err := d.Write(i, nil); err != api.ErrArg || d.Writes() != 0 {
				t.Errorf("%d: %v", i, err)
			}
		}
	}
}

func full(v byte, n int) []byte { return bytes.Repeat([]byte{v}, n) }

func reads(t *testing.T, d *Disk, i int, want []byte) {
	t.Helper()
	if b, err := d.Read(i); err != api.OK || !bytes.Equal(b, append(bytes.Clone(want), make([]byte, 64-len(want))...)) {
		t.Fatalf("%d: %x %v, not %x", i, b, err, want)
	}
}

func TestWrite(t *testing.T) {
	d := New(3)
	for n := range 65 {
		if err := d.Write(1, full(7, n)); err != api.OK || d.Writes() != n+1 {
			t.Fatal(n, err)
		}
		reads(t, d, 1, full(7, n))
		d.Write(2, full(9, 64))
		d.written--
	}
	d.Write(1, full(8, 64))
	d.Write(1, full(6, 2))
	reads(t, d, 1, full(6, 2))
	reads(t, d, 0, nil)
	reads(t, d, 2, full(9, 64))
	if err := d.Write(1, full(5, 65)); err != api.ErrArg {
		t.Error(err)
	}
	reads(t, d, 1, full(6, 2))
}

func TestCut(t *testing.T) {
	for after := range 4 {
		for _, n := range []int{math.MinInt, -1, 0, 1, 2, 63, 64, 65, math.MaxInt} {
			d := New(4)
			for i := range 4 {
				d.Write(i, full(1, 64))
			}
			d.Cut(after, n)
			for i := range after {
				if err := d.Write(i, full(2, 64)); err != api.OK || d.Down() {
					t.Fatal(after, n, i, err)
				}
			}
			if err := d.Write(9, nil); err != api.ErrArg {
				t.Error(err)
			}
			if err := d.Write(0, full(9, 65)); err != api.ErrArg {
				t.Error(err)
			}
			if err := d.Write(after, full(2, 10)); err != api.ErrDown || !d.Down() || d.Writes() != 4+after {
				t.Fatal(after, n, err, d.Down(), d.Writes())
			}
			isDown(t, d)
			d.Boot()
			torn := full(1, 64)
			copy(torn[:min(max(n, 0), 64)], append(full(2, 10), full(0, 54)...))
			for i := range 4 {
				switch {
				case i < after:
					reads(t, d, i, full(2, 64))
				case i == after:
					reads(t, d, i, torn)
				default:
					reads(t, d, i, full(1, 64))
				}
			}
			if err := d.Write(after, nil); err != api.OK || d.Down() {
				t.Fatal("a cut happens twice")
			}
		}
	}
}

func isDown(t *testing.T, d *Disk) {
	t.Helper()
	writes := d.Writes()
	for _, i := range []int{0, -1, 99} {
		if b, err := d.Read(i); err != api.ErrDown || len(b) != 0 {
			t.Error(b, err)
		}
		if err := d.Write(i, full(3, 65)); err != api.ErrDown {
			t.Error(err)
		}
		if err := d.Write(i, nil); err != api.ErrDown {
			t.Error(err)
		}
	}
	if d.Writes() != writes || !d.Down() {
		t.Error(d.Writes(), d.Down())
	}
}

func TestCutsOverCuts(t *testing.T) {
	d := New(1)
	d.Cut(0, 5)
	d.Cut(-1, 9)
	d.Cut(math.MinInt, 9)
	if err := d.Write(0, full(1, 64)); err != api.ErrDown {
		t.Error(err)
	}
	d.Cut(0, 0)
	d.Boot()
	reads(t, d, 0, full(1, 5))
	if err := d.Write(0, nil); err != api.OK {
		t.Error("a cut stands behind a boot")
	}
	d.Cut(0, 5)
	d.Cut(1, 6)
	if err := d.Write(0, full(2, 64)); err != api.OK {
		t.Error("an older cut stands")
	}
	d.Cut(0, 5)
	d.Boot()
	if err := d.Write(0, full(3, 64)); err != api.OK || d.Down() {
		t.Error(err)
	}
	d.Cut(math.MaxInt, 5)
	for range 50 {
		if err := d.Write(0, nil); err != api.OK {
			t.Error(err)
		}
	}
}

// TestStands: behind many writes and failures each sector is as a plain model has it.
func TestStands(t *testing.T) {
	r := rand.New(rand.NewSource(1))
	d := New(5)
	var model [5][]byte
	for i := range model {
		model[i] = make([]byte, 64)
	}
	cut, torn, failed := -1, 0, 0
	for range 20000 {
		if r.Intn(6) == 0 {
			cut, torn = r.Intn(5), r.Intn(65)
			d.Cut(cut, torn)
		}
		i, b := r.Intn(5), make([]byte, r.Intn(65))
		r.Read(b)
		s := append(bytes.Clone(b), make([]byte, 64-len(b))...)
		err := d.Write(i, b)
		if cut == 0 {
			copy(model[i][:torn], s)
			if err != api.ErrDown || !d.Down() {
				t.Fatal(err)
			}
			failed++
			d.Boot()
		} else {
			model[i] = s
			if err != api.OK || d.Down() {
				t.Fatal(err)
			}
		}
		if cut >= 0 {
			cut--
		}
		for i := range model {
			reads(t, d, i, model[i])
		}
	}
	if failed < 100 {
		t.Error(failed)
	}
}

func TestMemory(t *testing.T) {
	d := New(1)
	b := full(4, 70)
	d.Write(0, b[:60])
	b[0] = 5
	reads(t, d, 0, full(4, 60))
	o, _ := d.Read(0)
	o[0] = 6
	reads(t, d, 0, full(4, 60))
	if !bytes.Equal(b[1:], full(4, 69)) {
		t.Error(b)
	}
}
