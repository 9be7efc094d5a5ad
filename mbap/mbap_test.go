package mbap

import (
	"bytes"
	"math/rand"
	"testing"

	"watchkeeper/api"
)

func some(r *rand.Rand, n int) []byte {
	b := make([]byte, n)
	r.Read(b)
	return b
}

func same(a, b api.Adu) bool { return a.Id == b.Id && a.Unit == b.Unit && bytes.Equal(a.Pdu, b.Pdu) }

func allSame(a, b []api.Adu) bool {
	if len(a) != len(b) {
		return false
	}
	for i := range a {
		if !same(a[i], b[i]) {
			return false
		}
	}
	return true
}

func TestPut(t *testing.T) {
	for _, c := range []struct {
		f    api.Adu
		want []byte
	}{
		{api.Adu{Id: 7, Unit: 1, Pdu: []byte{3}}, []byte{0, 7, 0, 0, 0, 2, 1, 3}},
		{api.Adu{Id: 0x1234, Unit: 255, Pdu: []byte{9, 8}}, []byte{0x12, 0x34, 0, 0, 0, 3, 255, 9, 8}},
		{api.Adu{Id: 1, Unit: 2}, nil},
		{api.Adu{Id: 1, Unit: 2, Pdu: make([]byte, 254)}, nil},
		{api.Adu{Id: 1, Unit: 2, Pdu: make([]byte, 65535)}, nil},
		{api.Adu{Id: 65535, Pdu: make([]byte, 253)}, append([]byte{255, 255, 0, 0, 0, 254, 0}, make([]byte, 253)...)},
	} {
		if b := Put(c.f); !bytes.Equal(b, c.want) {
			t.Errorf("%v: %x, not %x", c.f, b, c.want)
		}
	}
}

func TestFirst(t *testing.T) {
	whole := []byte{0, 7, 0, 0, 0, 3, 1, 3, 4}
	for _, c := range []struct {
		b    []byte
		f    api.Adu
		n    int
		want api.Errno
	}{
		{nil, api.Adu{}, 0, api.OK},
		{whole[:1], api.Adu{}, 0, api.OK},
		{whole[:2], api.Adu{}, 0, api.OK},
		{whole[:3], api.Adu{}, 0, api.OK},
		{whole[:5], api.Adu{}, 0, api.OK},
		{whole[:6], api.Adu{}, 0, api.OK},
		{whole[:8], api.Adu{}, 0, api.OK},
		{whole, api.Adu{Id: 7, Unit: 1, Pdu: []byte{3, 4}}, 9, api.OK},
		{append(bytes.Clone(whole), 1, 2, 3), api.Adu{Id: 7, Unit: 1, Pdu: []byte{3, 4}}, 9, api.OK},
		{[]byte{0, 7, 1}, api.Adu{}, 0, api.ErrHead},
		{[]byte{0, 7, 0, 1}, api.Adu{}, 0, api.ErrHead},
		{[]byte{0, 7, 0, 0, 1}, api.Adu{}, 0, api.OK},
		{[]byte{0, 7, 0, 0, 1, 0}, api.Adu{}, 0, api.ErrHead},
		{[]byte{0, 7, 0, 0, 1, 3, 1, 3, 4}, api.Adu{}, 0, api.ErrHead},
		{[]byte{0, 7, 0, 0, 0, 0}, api.Adu{}, 0, api.ErrHead},
		{[]byte{0, 7, 0, 0, 0, 1}, api.Adu{}, 0, api.ErrHead},
		{[]byte{0, 7, 0, 0, 0, 1, 1}, api.Adu{}, 0, api.ErrHead},
		{[]byte{0, 7, 0, 0, 0, 2}, api.Adu{}, 0, api.OK},
		{[]byte{0, 7, 0, 0, 0, 254}, api.Adu{}, 0, api.OK},
		{[]byte{0, 7, 0, 0, 0, 255}, api.Adu{}, 0, api.ErrHead},
		{[]byte{0, 7, 0, 0, 255, 255}, api.Adu{}, 0, api.ErrHead},
		{[]byte{0, 7, 0, 1, 0, 2, 1, 1}, api.Adu{}, 0, api.ErrHead},
	} {
		if f, n, err := First(c.b); !same(f, c.f) || n != c.n || err != c.want {
			t.Errorf("%x: %v %d %v", c.b, f, n, err)
		}
	}
}

func row(r *rand.Rand) ([]api.Adu, []byte) {
	var l []api.Adu
	var b []byte
	for range r.Intn(6) {
		n := 1 + r.Intn(253)
		if r.Intn(2) == 0 {
			n = 1 + r.Intn(3)
		}
		f := api.Adu{Id: uint16(r.Intn(65536)), Unit: byte(r.Intn(256)), Pdu: some(r, n)}
		l = append(l, f)
		b = append(b, Put(f)...)
	}
	return l, b
}

func TestThereAndBack(t *testing.T) {
	r := rand.New(rand.NewSource(1))
	for range 500 {
		l, b := row(r)
		got, n, err := Cut(b)
		if !allSame(got, l) || n != len(b) || err != api.OK {
			t.Fatalf("%x: %v %d %v", b, got, n, err)
		}
		var again []byte
		for _, f := range got {
			again = append(again, Put(f)...)
		}
		if !bytes.Equal(again, b) {
			t.Fatalf("%x is put otherwise", b)
		}
	}
	for n := 1; n <= 253; n++ {
		f := api.Adu{Id: uint16(n * 77), Unit: byte(n), Pdu: some(r, n)}
		if g, many, err := First(Put(f)); !same(f, g) || many != n+7 || err != api.OK {
			t.Fatal(n, many, err)
		}
	}
}

// TestCutBehind: what stands behind frames, a piece of one, or what is none, leaves them as they are.
func TestCutBehind(t *testing.T) {
	r := rand.New(rand.NewSource(2))
	for range 300 {
		l, b := row(r)
		more := Put(api.Adu{Id: 1, Unit: 2, Pdu: some(r, 9)})
		for i := range len(more) {
			got, n, err := Cut(append(bytes.Clone(b), more[:i]...))
			if !allSame(got, l) || n != len(b) || err != api.OK {
				t.Fatalf("%x and %x: %v %d %v", b, more[:i], got, n, err)
			}
		}
		for _, bad := range [][]byte{{0, 0, 1}, {0, 0, 0, 9}, {0, 0, 0, 0, 0, 1}, {0, 0, 0, 0, 0, 255, 1, 1}} {
			got, n, err := Cut(append(append(bytes.Clone(b), bad...), more...))
			if !allSame(got, l) || n != len(b) || err != api.ErrHead {
				t.Fatalf("%x and %x: %v %d %v", b, bad, got, n, err)
			}
		}
	}
}

func TestPieces(t *testing.T) {
	r := rand.New(rand.NewSource(3))
	for range 500 {
		l, b := row(r)
		bad := r.Intn(3) == 0
		if bad {
			b = append(b, 0, 0, 0, 7, 1)
		}
		var got, kept = []api.Adu(nil), []byte(nil)
		last := api.OK
		for left := b; len(left) > 0 && last == api.OK; {
			n := 1 + r.Intn(min(len(left), 1+r.Intn(40)))
			kept = append(kept, left[:n]...)
			left = left[n:]
			fs, many, err := Cut(kept)
			got = append(got, fs...)
			kept, last = kept[many:], err
		}
		if !allSame(got, l) || bad != (last == api.ErrHead) || !bad && len(kept) > 0 {
			t.Fatalf("%x: %v %v, %x is left", b, got, last, kept)
		}
	}
}

func TestMemory(t *testing.T) {
	room := []byte{1, 2, 3, 4, 5}
	f := api.Adu{Id: 1, Unit: 2, Pdu: room[:2]}
	b := append(Put(f), Put(f)...)
	kept := bytes.Clone(b)
	l, _, _ := Cut(b)
	one, _, _ := First(b)
	for _, f := range append(l, one) {
		p := f.Pdu[:cap(f.Pdu)]
		for i := range p {
			p[i] = 99
		}
	}
	l[0].Pdu[0] = 50
	if l[1].Pdu[0] != 99 || one.Pdu[0] != 99 || !bytes.Equal(b, kept) || !bytes.Equal(room, []byte{1, 2, 3, 4, 5}) {
		t.Error("memory is shared")
	}
}
