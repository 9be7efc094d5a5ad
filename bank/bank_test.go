package bank

import (
	"bytes"
	"math/rand"
	"slices"
	"testing"

	"watchkeeper/api"
	"watchkeeper/pdu"
	"watchkeeper/reply"
)

func TestSizes(t *testing.T) {
	b := New([4]int{-5, 0, 3, 256})
	c := New([4]int{257, 1 << 62, -1 << 63, 1})
	for kind, want := range []int{0, 0, 3, 256} {
		if n := b.Size(kind); n != want {
			t.Errorf("%d: %d", kind, n)
		}
	}
	for kind, want := range []int{256, 256, 0, 1} {
		if n := c.Size(kind); n != want {
			t.Errorf("%d: %d", kind, n)
		}
	}
	for _, kind := range []int{-1, 4, 1 << 62, -1 << 63} {
		if b.Size(kind) != 0 {
			t.Errorf("%d has places", kind)
		}
	}
}

func TestAtAndPut(t *testing.T) {
	b := New([4]int{2, 2, 2, 2})
	for kind := -1; kind <= 4; kind++ {
		for _, place := range []int{-1 << 63, -1, 0, 1, 2, 256, 1<<63 - 1} {
			there := kind >= 0 && kind < 4 && (place == 0 || place == 1)
			if v, is := b.At(kind, place); v != 0 || is != there {
				t.Errorf("%d %d: %d %v", kind, place, v, is)
			}
			for _, v := range []uint16{65535, 2, 1, 0} {
				if b.Put(kind, place, v) != there {
					t.Errorf("%d %d: %v", kind, place, !there)
				}
				want := v
				if kind < 2 && v > 0 {
					want = 1
				}
				if !there {
					want = 0
				}
				if g, _ := b.At(kind, place); g != want {
					t.Errorf("%d %d: %d, not %d", kind, place, g, want)
				}
			}
		}
	}
}

func TestDo(t *testing.T) {
	b := New([4]int{4, 4, 6, 4})
	for i := range 4 {
		b.Put(api.Inputs, i, uint16(i%2))
		b.Put(api.Regs, i, uint16(100+i))
		b.Put(api.Holding, i, uint16(200+i))
	}
	for i, c := range []struct {
		q    api.Req
		want api.Rep
	}{
		{api.Req{Fc: 1, Qty: 4}, api.Rep{Vals: []uint16{0, 0, 0, 0}}},
		{api.Req{Fc: 2, Qty: 4}, api.Rep{Vals: []uint16{0, 1, 0, 1}}},
		{api.Req{Fc: 3, Addr: 1, Qty: 2}, api.Rep{Vals: []uint16{201, 202}}},
		{api.Req{Fc: 4, Addr: 3, Qty: 1}, api.Rep{Vals: []uint16{103}}},
		{api.Req{Fc: 5, Addr: 2, Vals: []uint16{1}}, api.Rep{}},
		{api.Req{Fc: 15, Addr: 0, Qty: 2, Vals: []uint16{1, 0}}, api.Rep{}},
		{api.Req{Fc: 1, Qty: 4}, api.Rep{Vals: []uint16{1, 0, 1, 0}}},
		{api.Req{Fc: 5, Addr: 2, Vals: []uint16{0}}, api.Rep{}},
		{api.Req{Fc: 1, Addr: 2, Qty: 1}, api.Rep{Vals: []uint16{0}}},
		{api.Req{Fc: 6, Addr: 5, Vals: []uint16{0x12}}, api.Rep{}},
		{api.Req{Fc: 22, Addr: 5, Vals: []uint16{0xf2, 0x25}}, api.Rep{}},
		{api.Req{Fc: 3, Addr: 5, Qty: 1}, api.Rep{Vals: []uint16{0x17}}},
		{api.Req{Fc: 16, Addr: 0, Qty: 2, Vals: []uint16{7, 8}}, api.Rep{}},
		{api.Req{Fc: 23, Addr: 0, Qty: 3, To: 1, Vals: []uint16{9, 10}}, api.Rep{Vals: []uint16{7, 9, 10}}},
		{api.Req{Fc: 23, Addr: 0, Qty: 6, To: 5, Vals: []uint16{1}}, api.Rep{Vals: []uint16{7, 9, 10, 203, 0, 1}}},
		{api.Req{Fc: 1, Addr: 3, Qty: 2}, api.Rep{Code: 2}},
		{api.Req{Fc: 2, Addr: 4, Qty: 1}, api.Rep{Code: 2}},
		{api.Req{Fc: 3, Addr: 6, Qty: 1}, api.Rep{Code: 2}},
		{api.Req{Fc: 4, Addr: 65535, Qty: 1}, api.Rep{Code: 2}},
		{api.Req{Fc: 5, Addr: 4, Vals: []uint16{1}}, api.Rep{Code: 2}},
		{api.Req{Fc: 6, Addr: 6, Vals: []uint16{1}}, api.Rep{Code: 2}},
		{api.Req{Fc: 15, Addr: 3, Qty: 2, Vals: []uint16{1, 1}}, api.Rep{Code: 2}},
		{api.Req{Fc: 16, Addr: 5, Qty: 2, Vals: []uint16{1, 1}}, api.Rep{Code: 2}},
		{api.Req{Fc: 22, Addr: 6, Vals: []uint16{1, 1}}, api.Rep{Code: 2}},
		{api.Req{Fc: 23, Addr: 5, Qty: 2, To: 0, Vals: []uint16{55}}, api.Rep{Code: 2}},
		{api.Req{Fc: 23, Addr: 0, Qty: 1, To: 5, Vals: []uint16{55, 56}}, api.Rep{Code: 2}},
		{api.Req{}, api.Rep{Code: 3}},
		{api.Req{Fc: 7, Qty: 1}, api.Rep{Code: 3}},
		{api.Req{Fc: 3, Addr: 0}, api.Rep{Code: 3}},
		{api.Req{Fc: 3, Addr: 6, Qty: 126}, api.Rep{Code: 3}},
		{api.Req{Fc: 3, Addr: 65535, Qty: 2}, api.Rep{Code: 3}},
		{api.Req{Fc: 5, Vals: []uint16{2}}, api.Rep{Code: 3}},
		{api.Req{Fc: 3, Qty: 6}, api.Rep{Vals: []uint16{7, 9, 10, 203, 0, 1}}},
		{api.Req{Fc: 1, Qty: 4}, api.Rep{Vals: []uint16{1, 0, 0, 0}}},
		{api.Req{Fc: 2, Qty: 4}, api.Rep{Vals: []uint16{0, 1, 0, 1}}},
		{api.Req{Fc: 4, Qty: 4}, api.Rep{Vals: []uint16{100, 101, 102, 103}}},
	} {
		if p := b.Do(c.q); p.Code != c.want.Code || !slices.Equal(p.Vals, c.want.Vals) {
			t.Errorf("%d, %v: %v, not %v", i, c.q, p, c.want)
		}
	}
}

// model is a bank as plain rows, that does F2 place by place.
type model [4][]uint16

func (m *model) do(q api.Req) api.Rep {
	if !pdu.Right(q) {
		return api.Rep{Code: 3}
	}
	kind := map[int]int{1: 0, 5: 0, 15: 0, 2: 1, 4: 3}
	k, is := kind[q.Fc]
	if !is {
		k = 2
	}
	row := m[k]
	for i := range max(1, q.Qty) {
		if q.Addr+i >= len(row) {
			return api.Rep{Code: 2}
		}
	}
	to := q.Addr
	if q.Fc == 23 {
		to = q.To
	}
	if q.Fc != 22 && to+len(q.Vals) > len(row) {
		return api.Rep{Code: 2}
	}
	if q.Fc == 22 {
		for bit := uint16(1); bit != 0; bit <<= 1 {
			from := row[to]
			if q.Vals[0]&bit == 0 {
				from = q.Vals[1]
			}
			row[to] = row[to]&^bit | from&bit
		}
	} else {
		for i, v := range q.Vals {
			row[to+i] = v
		}
	}
	var p api.Rep
	if q.Fc < 5 || q.Fc == 23 {
		for i := range q.Qty {
			p.Vals = append(p.Vals, row[q.Addr+i])
		}
	}
	return p
}

func some(r *rand.Rand, n, most int) []uint16 {
	l := make([]uint16, n)
	for i := range l {
		l[i] = uint16(r.Intn(most))
	}
	return l
}

func request(r *rand.Rand) api.Req {
	fcs := []int{1, 2, 3, 4, 5, 6, 15, 16, 22, 23}
	q := api.Req{Fc: fcs[r.Intn(len(fcs))], Addr: r.Intn(24)}
	switch q.Fc {
	case 1, 2, 3, 4:
		q.Qty = r.Intn(12)
	case 5:
		q.Vals = some(r, 1, 2)
	case 6:
		q.Vals = some(r, 1, 65536)
	case 15:
		q.Qty = 1 + r.Intn(8)
		q.Vals = some(r, q.Qty, 2)
	case 16:
		q.Qty = 1 + r.Intn(8)
		q.Vals = some(r, q.Qty, 65536)
	case 22:
		q.Vals = some(r, 2, 65536)
	case 23:
		q.Qty, q.To, q.Vals = 1+r.Intn(8), r.Intn(24), some(r, 1+r.Intn(8), 65536)
	}
	return q
}

// TestWhatWasWritten: behind each of many requests all places are as those of a plain model.
func TestWhatWasWritten(t *testing.T) {
	r := rand.New(rand.NewSource(1))
	sizes := [4]int{20, 17, 22, 19}
	b := New(sizes)
	var m model
	for kind, n := range sizes {
		m[kind] = make([]uint16, n)
		for i := range n {
			v := uint16(r.Intn(65536))
			if kind < 2 {
				v %= 2
			}
			b.Put(kind, i, v)
			m[kind][i] = v
		}
	}
	exceptions := 0
	for range 20000 {
		q := request(r)
		want := m.do(q)
		var p api.Rep
		if r.Intn(2) == 0 && pdu.Right(q) {
			p, _ = reply.Get(q, b.Serve(pdu.Put(q)))
		} else {
			p = b.Do(q)
		}
		if p.Code != want.Code || !slices.Equal(p.Vals, want.Vals) {
			t.Fatalf("%v: %v, not %v", q, p, want)
		}
		if p.Code != 0 {
			exceptions++
		}
		for kind := range sizes {
			for i, v := range m[kind] {
				if g, is := b.At(kind, i); g != v || !is {
					t.Fatalf("behind %v: %d %d is %d, not %d", q, kind, i, g, v)
				}
			}
		}
	}
	if exceptions < 1000 {
		t.Error(exceptions)
	}
}

func TestServe(t *testing.T) {
	b := New([4]int{0, 0, 2, 0})
	for _, c := range []struct {
		asked, want []byte
	}{
		{[]byte{3, 0, 2, 0, 1}, []byte{0x83, 2}},
		{[]byte{3, 0, 0, 0, 2}, []byte{3, 4, 0, 0, 0, 0}},
		{[]byte{6, 0, 1, 1, 2}, []byte{6, 0, 1, 1, 2}},
		{[]byte{3, 0, 1, 0, 1}, []byte{3, 2, 1, 2}},
		{[]byte{16, 0, 0, 0, 1, 2, 3, 4}, []byte{16, 0, 0, 0, 1}},
		{[]byte{23, 0, 0, 0, 2, 0, 1, 0, 1, 2, 9, 9}, []byte{23, 4, 3, 4, 9, 9}},
		{nil, []byte{0x80, 1}},
		{[]byte{}, []byte{0x80, 1}},
		{[]byte{0}, []byte{0x80, 1}},
		{[]byte{0x83, 0, 0, 0, 1}, []byte{0x83, 1}},
		{[]byte{7, 0}, []byte{0x87, 1}},
		{[]byte{3}, []byte{0x83, 3}},
		{[]byte{3, 0, 0, 0, 126}, []byte{0x83, 3}},
		{[]byte{3, 255, 255, 0, 2}, []byte{0x83, 2}},
		{[]byte{5, 0, 0, 255, 0}, []byte{0x85, 2}},
		{[]byte{5, 0, 0, 255, 1}, []byte{0x85, 3}},
	} {
		if a := b.Serve(c.asked); !bytes.Equal(a, c.want) {
			t.Errorf("%x: %x, not %x", c.asked, a, c.want)
		}
	}
}

// TestServedByWhatMayBe: any bytes are answered by an exception that they deserve, or by what may be answered to what they ask.
func TestServedByWhatMayBe(t *testing.T) {
	r := rand.New(rand.NewSource(2))
	b := New([4]int{20, 20, 20, 20})
	for range 20000 {
		asked := make([]byte, r.Intn(14))
		r.Read(asked)
		if q := request(r); r.Intn(2) == 0 && pdu.Right(q) {
			asked = pdu.Put(q)
			asked[r.Intn(len(asked))] ^= byte(r.Intn(2)) << r.Intn(8)
		}
		a := b.Serve(asked)
		q, ex := pdu.Get(asked)
		if ex != 0 {
			if !bytes.Equal(a, reply.Alarm(asked, ex)) {
				t.Fatalf("%x: %x", asked, a)
			}
			continue
		}
		if _, err := reply.Get(q, a); err != api.OK && err != api.ErrAlarm {
			t.Fatalf("%x: %x %v", asked, a, err)
		}
	}
}

func TestMemory(t *testing.T) {
	b := New([4]int{0, 0, 4, 0})
	l := []uint16{1, 2, 3, 4, 5}
	b.Do(api.Req{Fc: 16, Qty: 3, Vals: l[:3]})
	l[0] = 9
	p := b.Do(api.Req{Fc: 3, Qty: 2})
	p.Vals[0] = 8
	for i := range p.Vals[:cap(p.Vals)] {
		p.Vals[:cap(p.Vals)][i] = 7
	}
	if p := b.Do(api.Req{Fc: 3, Qty: 4}); !slices.Equal(p.Vals, []uint16{1, 2, 3, 0}) || !slices.Equal(l, []uint16{9, 2, 3, 4, 5}) {
		t.Error(p, l)
	}
	asked := []byte{6, 0, 0, 0, 5, 99}
	b.Serve(asked[:5])
	if !bytes.Equal(asked, []byte{6, 0, 0, 0, 5, 99}) {
		t.Error(asked)
	}
}
