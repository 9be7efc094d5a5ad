package pdu

import (
	"bytes"
	"math/rand"
	"slices"
	"testing"

	"watchkeeper/api"
)

var fcs = []int{1, 2, 3, 4, 5, 6, 15, 16, 22, 23}

// mostQty is the table's greatest Qty.
var mostQty = map[int]int{1: 2000, 2: 2000, 3: 125, 4: 125, 15: 1968, 16: 123, 23: 125}

func vals(r *rand.Rand, n int, most int) []uint16 {
	l := make([]uint16, n)
	for i := range l {
		l[i] = uint16(r.Intn(most))
	}
	return l
}

func upTo(r *rand.Rand, n int) int {
	switch r.Intn(4) {
	case 0:
		return 1
	case 1:
		return n
	}
	return 1 + r.Intn(n)
}

// right is some right request of an Fc.
func right(r *rand.Rand, fc int) api.Req {
	q := api.Req{Fc: fc}
	need := 1
	if most := mostQty[fc]; most > 0 {
		q.Qty = upTo(r, most)
		need = q.Qty
	}
	switch fc {
	case 5:
		q.Vals = vals(r, 1, 2)
	case 6:
		q.Vals = vals(r, 1, 65536)
	case 15:
		q.Vals = vals(r, q.Qty, 2)
	case 16:
		q.Vals = vals(r, q.Qty, 65536)
	case 22:
		q.Vals = vals(r, 2, 65536)
	case 23:
		q.Vals = vals(r, upTo(r, 121), 65536)
		q.To = r.Intn(65536 - len(q.Vals) + 1)
		if r.Intn(3) == 0 {
			q.To = 65536 - len(q.Vals)
		}
	}
	q.Addr = r.Intn(65536 - need + 1)
	if r.Intn(3) == 0 {
		q.Addr = 65536 - need
	}
	return q
}

func same(a, b api.Req) bool {
	return a.Fc == b.Fc && a.Addr == b.Addr && a.Qty == b.Qty && a.To == b.To && slices.Equal(a.Vals, b.Vals)
}

func zero(q api.Req) bool { return same(q, api.Req{}) }

func TestPut(t *testing.T) {
	for _, c := range []struct {
		q    api.Req
		want []byte
	}{
		{api.Req{Fc: 3, Addr: 1, Qty: 2}, []byte{3, 0, 1, 0, 2}},
		{api.Req{Fc: 1, Addr: 0xabcd, Qty: 2000}, []byte{1, 0xab, 0xcd, 7, 0xd0}},
		{api.Req{Fc: 2, Addr: 65535, Qty: 1}, []byte{2, 255, 255, 0, 1}},
		{api.Req{Fc: 4, Addr: 0, Qty: 125}, []byte{4, 0, 0, 0, 125}},
		{api.Req{Fc: 5, Addr: 2, Vals: []uint16{1}}, []byte{5, 0, 2, 255, 0}},
		{api.Req{Fc: 5, Addr: 2, Vals: []uint16{0}}, []byte{5, 0, 2, 0, 0}},
		{api.Req{Fc: 6, Addr: 2, Vals: []uint16{0x1234}}, []byte{6, 0, 2, 0x12, 0x34}},
		{api.Req{Fc: 15, Addr: 3, Qty: 10, Vals: []uint16{1, 0, 1, 1, 0, 0, 1, 1, 1, 0}}, []byte{15, 0, 3, 0, 10, 2, 0xcd, 1}},
		{api.Req{Fc: 16, Addr: 1, Qty: 2, Vals: []uint16{10, 0x102}}, []byte{16, 0, 1, 0, 2, 4, 0, 10, 1, 2}},
		{api.Req{Fc: 22, Addr: 4, Vals: []uint16{0xf2, 0x25}}, []byte{22, 0, 4, 0, 0xf2, 0, 0x25}},
		{api.Req{Fc: 23, Addr: 3, Qty: 6, To: 14, Vals: []uint16{255, 256}}, []byte{23, 0, 3, 0, 6, 0, 14, 0, 2, 4, 0, 255, 1, 0}},
	} {
		if b := Put(c.q); !bytes.Equal(b, c.want) || !Right(c.q) {
			t.Errorf("%v: %x, not %x", c.q, b, c.want)
		}
		if q, ex := Get(c.want); !same(q, c.q) || ex != 0 {
			t.Errorf("%x: %v %d", c.want, q, ex)
		}
	}
}

func TestNotRight(t *testing.T) {
	one, many := []uint16{1}, make([]uint16, 2001)
	for _, q := range []api.Req{
		{}, {Fc: 7, Qty: 1}, {Fc: -1, Qty: 1}, {Fc: 259, Qty: 1}, {Fc: 131, Qty: 1}, {Fc: 0, Qty: 1},
		{Fc: 1}, {Fc: 1, Qty: -1}, {Fc: 1, Qty: 2001}, {Fc: 2, Qty: 2001}, {Fc: 3, Qty: 126}, {Fc: 4, Qty: 126},
		{Fc: 1, Qty: 1, Addr: -1}, {Fc: 1, Qty: 1, Addr: 65536}, {Fc: 1, Qty: 2, Addr: 65535}, {Fc: 3, Qty: 125, Addr: 65412},
		{Fc: 1, Qty: 1, Vals: one}, {Fc: 1, Qty: 1, To: 1}, {Fc: 4, Qty: 1, To: -1},
		{Fc: 1, Qty: 1 << 62, Addr: 1}, {Fc: 1, Qty: 1, Addr: 1<<63 - 1}, {Fc: 1, Qty: -1 << 63, Addr: 1},
		{Fc: 5}, {Fc: 5, Vals: []uint16{2}}, {Fc: 5, Vals: []uint16{65280}}, {Fc: 5, Vals: []uint16{1, 1}}, {Fc: 5, Qty: 1, Vals: one}, {Fc: 5, To: 1, Vals: one}, {Fc: 5, Addr: 65536, Vals: one},
		{Fc: 6}, {Fc: 6, Vals: []uint16{1, 2}}, {Fc: 6, Qty: 1, Vals: one}, {Fc: 6, To: 2, Vals: one}, {Fc: 6, Addr: -1, Vals: one},
		{Fc: 15, Vals: nil}, {Fc: 15, Qty: 1}, {Fc: 15, Qty: 2, Vals: one}, {Fc: 15, Qty: 1, Vals: []uint16{2}}, {Fc: 15, Qty: 1969, Vals: many[:1969]}, {Fc: 15, Qty: 1, To: 1, Vals: one}, {Fc: 15, Qty: 2, Addr: 65535, Vals: many[:2]},
		{Fc: 16, Qty: 1}, {Fc: 16, Qty: 2, Vals: one}, {Fc: 16, Qty: 124, Vals: many[:124]}, {Fc: 16, Qty: 1, To: 1, Vals: one}, {Fc: 16, Qty: 2, Addr: 65535, Vals: many[:2]},
		{Fc: 22, Vals: one}, {Fc: 22, Vals: many[:3]}, {Fc: 22, Qty: 1, Vals: many[:2]}, {Fc: 22, To: 1, Vals: many[:2]},
		{Fc: 23, Qty: 1}, {Fc: 23, Vals: one}, {Fc: 23, Qty: 126, Vals: one}, {Fc: 23, Qty: 1, Vals: many[:122]}, {Fc: 23, Qty: 1, To: 65536, Vals: one}, {Fc: 23, Qty: 1, To: 65535, Vals: many[:2]}, {Fc: 23, Qty: 1, To: -1, Vals: one}, {Fc: 23, Qty: 2, Addr: 65535, Vals: one}, {Fc: 23, Qty: 1, To: 1<<63 - 1, Vals: one},
	} {
		if Right(q) || len(Put(q)) != 0 {
			t.Errorf("%+v is right", q)
		}
	}
}

func TestThereAndBack(t *testing.T) {
	r := rand.New(rand.NewSource(1))
	for _, fc := range fcs {
		for range 400 {
			q := right(r, fc)
			b := Put(q)
			if !Right(q) || len(b) < 5 || len(b) > api.MaxPdu {
				t.Fatalf("%+v: %v %x", q, Right(q), b)
			}
			if g, ex := Get(b); !same(g, q) || ex != 0 {
				t.Fatalf("%x: %+v %d, not %+v", b, g, ex, q)
			}
			if q.Vals == nil {
				q.Vals = []uint16{}
				if !bytes.Equal(Put(q), b) {
					t.Fatalf("%+v with no Vals, not nil", q)
				}
			}
		}
	}
}

func word(b []byte, i int) int { return int(b[i])<<8 | int(b[i+1]) }

// deserves is D2, worked out for each Fc on its own: the exception, or 0.
func deserves(b []byte) int {
	if len(b) == 0 || !slices.Contains(fcs, int(b[0])) {
		return 1
	}
	if len(b) < 5 {
		return 3
	}
	addr, n := word(b, 1), word(b, 3)
	most := mostQty[int(b[0])]
	if most > 0 && (n < 1 || n > most) {
		return 3
	}
	over := addr+n > 65536
	switch b[0] {
	case 1, 2, 3, 4:
		if len(b) != 5 {
			return 3
		}
	case 5:
		if len(b) != 5 || n != 0 && n != 65280 {
			return 3
		}
		over = false
	case 6:
		if len(b) != 5 {
			return 3
		}
		over = false
	case 15:
		many := (n + 7) / 8
		if len(b) != 6+many || int(b[5]) != many || n%8 != 0 && b[len(b)-1]>>(n%8) != 0 {
			return 3
		}
	case 16:
		if len(b) != 6+2*n || int(b[5]) != 2*n {
			return 3
		}
	case 22:
		if len(b) != 7 {
			return 3
		}
		over = false
	case 23:
		if len(b) < 10 {
			return 3
		}
		to, many := word(b, 5), word(b, 7)
		if many < 1 || many > 121 || len(b) != 10+2*many || int(b[9]) != 2*many {
			return 3
		}
		over = over || to+many > 65536
	}
	if over {
		return 2
	}
	return 0
}

func checkGet(t *testing.T, b []byte) int {
	t.Helper()
	q, ex := Get(b)
	if want := deserves(b); ex != want {
		t.Fatalf("%x: %d, not %d", b, ex, want)
	}
	if ex != 0 && !zero(q) {
		t.Fatalf("%x: both %+v and %d", b, q, ex)
	}
	if ex == 0 && (!Right(q) || !bytes.Equal(Put(q), b)) {
		t.Fatalf("%x: %+v is put otherwise", b, q)
	}
	return ex
}

func TestExceptions(t *testing.T) {
	checkGet(t, nil)
	for i := range 256 {
		checkGet(t, []byte{byte(i)})
		checkGet(t, []byte{byte(i), 0, 0, 0, 1})
		checkGet(t, []byte{byte(i), 0, 0, 0, 1, 0})
		checkGet(t, []byte{byte(i), 255, 255, 0, 1})
		checkGet(t, []byte{byte(i), 255, 255, 0, 2})
		checkGet(t, []byte{byte(i), 255, 255, 0, 2, 0, 0})
	}
	for _, c := range []struct {
		b  []byte
		ex int
	}{
		{[]byte{}, 1}, {[]byte{0}, 1}, {[]byte{7}, 1}, {[]byte{0x83, 0, 0, 0, 1}, 1},
		{[]byte{3}, 3}, {[]byte{3, 0, 0, 0, 126}, 3}, {[]byte{3, 0, 0, 0, 0}, 3}, {[]byte{3, 255, 255, 0, 126}, 3}, {[]byte{3, 255, 255, 0, 125}, 2},
		{[]byte{5, 0, 0, 0, 1}, 3}, {[]byte{5, 0, 0, 255, 1}, 3}, {[]byte{5, 255, 255, 255, 0}, 0},
		{[]byte{15, 0, 0, 0, 1, 1, 3}, 3}, {[]byte{15, 0, 0, 0, 1, 1, 1}, 0}, {[]byte{15, 0, 0, 0, 1, 2, 1, 0}, 3}, {[]byte{15, 255, 255, 0, 2, 1, 3}, 2}, {[]byte{15, 255, 255, 0, 2, 1, 7}, 3},
		{[]byte{16, 0, 0, 0, 1, 2, 0, 0}, 0}, {[]byte{16, 0, 0, 0, 1, 1, 0, 0}, 3}, {[]byte{16, 0, 0, 0, 1, 2, 0}, 3}, {[]byte{16, 255, 255, 0, 2, 4, 0, 0, 0, 0}, 2},
		{[]byte{23, 255, 255, 0, 2, 0, 0, 0, 1, 2, 0, 0}, 2}, {[]byte{23, 0, 0, 0, 2, 255, 255, 0, 2, 4, 0, 0, 0, 0}, 2}, {[]byte{23, 0, 0, 0, 2, 255, 255, 0, 2, 3, 0, 0, 0, 0}, 3},
	} {
		if ex := checkGet(t, c.b); ex != c.ex {
			t.Errorf("%x: %d, not %d", c.b, ex, c.ex)
		}
	}
}

// TestSpoiled: bytes of requests that are cut, longer, or turned, are what the document says of them.
func TestSpoiled(t *testing.T) {
	r := rand.New(rand.NewSource(2))
	var seen [4]int
	for range 30000 {
		b := Put(right(r, fcs[r.Intn(len(fcs))]))
		switch r.Intn(5) {
		case 0:
			b = b[:r.Intn(len(b))]
		case 1:
			b = append(b, make([]byte, 1+r.Intn(3))...)
		case 2:
			b[r.Intn(min(len(b), 10))] = byte(r.Intn(256))
		case 3:
			b[1], b[2] = 255, 255
		case 4:
			b[r.Intn(len(b))] ^= 1 << r.Intn(8)
		}
		seen[checkGet(t, b)]++
	}
	for ex, n := range seen {
		if n < 100 {
			t.Errorf("%d just %d times", ex, n)
		}
	}
}

func TestReadsAndWrites(t *testing.T) {
	reads, readBits := []int{1, 2, 3, 4, 23}, []int{1, 2}
	writes, writeBits := []int{5, 6, 15, 16, 22, 23}, []int{5, 15}
	for fc := -300; fc < 600; fc++ {
		if is, bits := Reads(fc); is != slices.Contains(reads, fc) || bits != slices.Contains(readBits, fc) {
			t.Errorf("reads %d: %v %v", fc, is, bits)
		}
		if is, bits := Writes(fc); is != slices.Contains(writes, fc) || bits != slices.Contains(writeBits, fc) {
			t.Errorf("writes %d: %v %v", fc, is, bits)
		}
	}
}

func TestBits(t *testing.T) {
	for _, c := range []struct {
		l    []uint16
		want []byte
	}{
		{nil, nil}, {[]uint16{0}, []byte{0}}, {[]uint16{1}, []byte{1}}, {[]uint16{2, 0, 65535, 256}, []byte{13}},
		{[]uint16{0, 0, 0, 0, 0, 0, 0, 1}, []byte{128}}, {[]uint16{0, 0, 0, 0, 0, 0, 0, 0, 1}, []byte{0, 1}},
	} {
		if b := Bits(c.l); !bytes.Equal(b, c.want) {
			t.Errorf("%v: %x", c.l, b)
		}
	}
	r := rand.New(rand.NewSource(3))
	for n := range 300 {
		l := vals(r, n, 2)
		if b := Bits(l); len(b) != (n+7)/8 || !slices.Equal(Unbits(b, n), l) {
			t.Fatalf("%v: %x", l, b)
		}
		b := make([]byte, n)
		r.Read(b)
		if l := Unbits(b, 8*n); len(l) != 8*n || !bytes.Equal(Bits(l), b) {
			t.Fatalf("%x: %v", b, l)
		}
	}
}

func TestUnbitsEdges(t *testing.T) {
	b := []byte{0xa5, 3}
	for _, c := range []struct {
		n    int
		want []uint16
	}{
		{-1, nil}, {0, nil}, {1, []uint16{1}}, {3, []uint16{1, 0, 1}}, {12, []uint16{1, 0, 1, 0, 0, 1, 0, 1, 1, 1, 0, 0}},
		{18, []uint16{1, 0, 1, 0, 0, 1, 0, 1, 1, 1, 0, 0, 0, 0, 0, 0, 0, 0}}, {65537, nil}, {-1 << 63, nil}, {1<<63 - 1, nil},
	} {
		if l := Unbits(b, c.n); !slices.Equal(l, c.want) {
			t.Errorf("%d: %v", c.n, l)
		}
	}
	if l := Unbits(nil, 65536); len(l) != 65536 || slices.Max(l) != 0 {
		t.Error(len(l))
	}
}

func TestMemory(t *testing.T) {
	room := []uint16{1, 2, 3, 4}
	q := api.Req{Fc: 16, Qty: 2, Vals: room[:2]}
	b := Put(q)
	kept := bytes.Clone(b)
	g, _ := Get(b)
	l := Unbits(b, 16)
	for _, l := range [][]uint16{g.Vals[:cap(g.Vals)], l} {
		for i := range l {
			l[i] = 9
		}
	}
	o := Bits(room)
	o[0] = 0
	if !bytes.Equal(b, kept) || !slices.Equal(room, []uint16{1, 2, 3, 4}) {
		t.Error("memory is shared")
	}
}
