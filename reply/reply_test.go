package reply

import (
	"bytes"
	"math/rand"
	"slices"
	"testing"

	"watchkeeper/api"
	"watchkeeper/pdu"
)

var fcs = []int{1, 2, 3, 4, 5, 6, 15, 16, 22, 23}

func vals(r *rand.Rand, n int, most int) []uint16 {
	l := make([]uint16, n)
	for i := range l {
		l[i] = uint16(r.Intn(most))
	}
	return l
}

// request is some right request of an Fc.
func request(r *rand.Rand, fc int) api.Req {
	q := api.Req{Fc: fc, Addr: r.Intn(60000)}
	switch fc {
	case 1, 2:
		q.Qty = 1 + r.Intn(2000)
	case 3, 4:
		q.Qty = 1 + r.Intn(125)
	case 5:
		q.Vals = vals(r, 1, 2)
	case 6:
		q.Vals = vals(r, 1, 65536)
	case 15:
		q.Qty = 1 + r.Intn(1968)
		q.Vals = vals(r, q.Qty, 2)
	case 16:
		q.Qty = 1 + r.Intn(123)
		q.Vals = vals(r, q.Qty, 65536)
	case 22:
		q.Vals = vals(r, 2, 65536)
	case 23:
		q.Qty, q.To, q.Vals = 1+r.Intn(125), r.Intn(60000), vals(r, 1+r.Intn(121), 65536)
	}
	return q
}

// answer is some answer that a request may have.
func answer(r *rand.Rand, q api.Req) api.Rep {
	if r.Intn(4) == 0 {
		return api.Rep{Code: 1 + r.Intn(4)}
	}
	switch q.Fc {
	case 1, 2:
		return api.Rep{Vals: vals(r, q.Qty, 2)}
	case 3, 4, 23:
		return api.Rep{Vals: vals(r, q.Qty, 65536)}
	}
	return api.Rep{}
}

func same(a, b api.Rep) bool { return a.Code == b.Code && slices.Equal(a.Vals, b.Vals) }

func TestPut(t *testing.T) {
	bits := []uint16{1, 0, 1, 1, 0, 0, 1, 1, 1, 0}
	for _, c := range []struct {
		q    api.Req
		p    api.Rep
		want []byte
	}{
		{api.Req{Fc: 3, Qty: 1}, api.Rep{Vals: []uint16{7}}, []byte{3, 2, 0, 7}},
		{api.Req{Fc: 4, Qty: 2}, api.Rep{Vals: []uint16{0x102, 0xfffe}}, []byte{4, 4, 1, 2, 255, 254}},
		{api.Req{Fc: 1, Qty: 10}, api.Rep{Vals: bits}, []byte{1, 2, 0xcd, 1}},
		{api.Req{Fc: 2, Qty: 1}, api.Rep{Vals: []uint16{0}}, []byte{2, 1, 0}},
		{api.Req{Fc: 5, Addr: 3, Vals: []uint16{1}}, api.Rep{}, []byte{5, 0, 3, 255, 0}},
		{api.Req{Fc: 6, Addr: 3, Vals: []uint16{258}}, api.Rep{Vals: []uint16{}}, []byte{6, 0, 3, 1, 2}},
		{api.Req{Fc: 15, Addr: 3, Qty: 10, Vals: bits}, api.Rep{}, []byte{15, 0, 3, 0, 10}},
		{api.Req{Fc: 16, Addr: 3, Qty: 1, Vals: []uint16{9}}, api.Rep{}, []byte{16, 0, 3, 0, 1}},
		{api.Req{Fc: 22, Addr: 4, Vals: []uint16{0xf2, 0x25}}, api.Rep{}, []byte{22, 0, 4, 0, 0xf2, 0, 0x25}},
		{api.Req{Fc: 23, Qty: 2, To: 1, Vals: []uint16{9}}, api.Rep{Vals: []uint16{1, 2}}, []byte{23, 4, 0, 1, 0, 2}},
		{api.Req{Fc: 23, Qty: 2, To: 1, Vals: []uint16{9}}, api.Rep{Code: 2}, []byte{151, 2}},
		{api.Req{Fc: 1, Qty: 2}, api.Rep{Code: 1}, []byte{129, 1}},
		{api.Req{Fc: 6, Vals: []uint16{1}}, api.Rep{Code: 4}, []byte{134, 4}},
	} {
		if b := Put(c.q, c.p); !bytes.Equal(b, c.want) || !Right(c.q, c.p) {
			t.Errorf("%v %v: %x, not %x", c.q, c.p, b, c.want)
		}
	}
}

func TestNotRight(t *testing.T) {
	one := []uint16{1}
	for _, c := range []struct {
		q api.Req
		p api.Rep
	}{
		{api.Req{}, api.Rep{}},
		{api.Req{Fc: 7}, api.Rep{Code: 1}},
		{api.Req{Fc: 3}, api.Rep{}},
		{api.Req{Fc: 3}, api.Rep{Code: 1}},
		{api.Req{Fc: 3, Qty: 126}, api.Rep{Vals: make([]uint16, 126)}},
		{api.Req{Fc: 3, Qty: 1}, api.Rep{}},
		{api.Req{Fc: 3, Qty: 1}, api.Rep{Vals: []uint16{1, 2}}},
		{api.Req{Fc: 3, Qty: 1}, api.Rep{Code: 1, Vals: one}},
		{api.Req{Fc: 3, Qty: 1}, api.Rep{Code: 5}},
		{api.Req{Fc: 3, Qty: 1}, api.Rep{Code: -1}},
		{api.Req{Fc: 3, Qty: 1}, api.Rep{Code: 257}},
		{api.Req{Fc: 1, Qty: 1}, api.Rep{Vals: []uint16{2}}},
		{api.Req{Fc: 2, Qty: 2}, api.Rep{Vals: []uint16{0, 65535}}},
		{api.Req{Fc: 2, Qty: 2}, api.Rep{Vals: one}},
		{api.Req{Fc: 5, Vals: one}, api.Rep{Vals: one}},
		{api.Req{Fc: 6, Vals: one}, api.Rep{Vals: one}},
		{api.Req{Fc: 15, Qty: 1, Vals: one}, api.Rep{Vals: one}},
		{api.Req{Fc: 16, Qty: 1, Vals: one}, api.Rep{Vals: one}},
		{api.Req{Fc: 22, Vals: []uint16{1, 1}}, api.Rep{Vals: []uint16{1, 1}}},
		{api.Req{Fc: 22, Vals: []uint16{1, 1}}, api.Rep{Code: 128}},
		{api.Req{Fc: 6, Vals: one, Qty: 1}, api.Rep{}},
		{api.Req{Fc: 23, Qty: 1, Vals: one}, api.Rep{}},
	} {
		if Right(c.q, c.p) || len(Put(c.q, c.p)) != 0 {
			t.Errorf("%v %v is right", c.q, c.p)
		}
	}
}

func TestThereAndBack(t *testing.T) {
	r := rand.New(rand.NewSource(1))
	for _, fc := range fcs {
		for range 300 {
			q := request(r, fc)
			p := answer(r, q)
			b := Put(q, p)
			if !Right(q, p) || len(b) < 2 || len(b) > api.MaxPdu {
				t.Fatalf("%v %v: %x", q, p, b)
			}
			want := api.OK
			if p.Code != 0 {
				want = api.ErrAlarm
			}
			if g, err := Get(q, b); !same(g, p) || err != want {
				t.Fatalf("%v, %x: %v %v", q, b, g, err)
			}
		}
	}
}

// TestSpoiled: bytes that are spoiled are none, or what they are put of.
func TestSpoiled(t *testing.T) {
	r := rand.New(rand.NewSource(2))
	none := 0
	for range 20000 {
		q := request(r, fcs[r.Intn(len(fcs))])
		b := Put(q, answer(r, q))
		switch r.Intn(4) {
		case 0:
			b = b[:r.Intn(len(b))]
		case 1:
			b = append(b, byte(r.Intn(2)))
		case 2:
			b[r.Intn(min(4, len(b)))] ^= 1 << r.Intn(8)
		case 3:
			b[len(b)-1] ^= 1 << r.Intn(8)
		}
		p, err := Get(q, b)
		switch {
		case err == api.ErrReply:
			none++
			if p.Code != 0 || len(p.Vals) != 0 {
				t.Fatalf("%v %x: %v and an error", q, b, p)
			}
		case !Right(q, p) || !bytes.Equal(Put(q, p), b) || (p.Code != 0) != (err == api.ErrAlarm):
			t.Fatalf("%v %x: %v %v", q, b, p, err)
		}
	}
	if none < 5000 {
		t.Error(none)
	}
}

func TestGetOfNone(t *testing.T) {
	read, write := api.Req{Fc: 3, Qty: 1}, api.Req{Fc: 6, Addr: 1, Vals: []uint16{5}}
	coils := api.Req{Fc: 1, Qty: 3}
	for _, c := range []struct {
		q api.Req
		b []byte
	}{
		{read, nil}, {read, []byte{3}}, {read, []byte{3, 2}}, {read, []byte{3, 2, 0}}, {read, []byte{3, 1, 0, 7}}, {read, []byte{3, 2, 0, 7, 0}}, {read, []byte{4, 2, 0, 7}},
		{read, []byte{0x83, 0}}, {read, []byte{0x83, 5}}, {read, []byte{0x83}}, {read, []byte{0x83, 1, 0}}, {read, []byte{0x84, 1}}, {read, []byte{3, 1}},
		{read, []byte{3, 4, 0, 7, 0, 8}},
		{write, []byte{6, 0, 1, 0, 6}}, {write, []byte{6, 0, 2, 0, 5}}, {write, []byte{6, 0, 1, 0}}, {write, []byte{6, 0, 1, 0, 5, 0}}, {write, []byte{0x86, 0}}, {write, nil},
		{coils, []byte{1, 1, 8}}, {coils, []byte{1, 2, 0, 0}}, {coils, []byte{1, 0}},
		{api.Req{}, nil}, {api.Req{Fc: 7}, []byte{7}}, {api.Req{Fc: 3}, []byte{3, 0}}, {api.Req{Fc: 3, Qty: 126}, []byte{0x83, 3}},
		{api.Req{Fc: 131}, []byte{3, 1}},
	} {
		if p, err := Get(c.q, c.b); err != api.ErrReply || p.Code != 0 || len(p.Vals) != 0 {
			t.Errorf("%v %x: %v %v", c.q, c.b, p, err)
		}
	}
	if p, err := Get(coils, []byte{1, 1, 7}); err != api.OK || !slices.Equal(p.Vals, []uint16{1, 1, 1}) {
		t.Error(p, err)
	}
}

// TestAnotherRequest: an answer to one request is one to another one just if it may be answered to that.
func TestAnotherRequest(t *testing.T) {
	r := rand.New(rand.NewSource(3))
	for range 20000 {
		q, o := request(r, fcs[r.Intn(len(fcs))]), request(r, fcs[r.Intn(len(fcs))])
		if r.Intn(3) == 0 {
			o = q
			o.Addr++
		}
		p := answer(r, q)
		b := Put(q, p)
		g, err := Get(o, b)
		if err == api.ErrReply {
			if bytes.Equal(Put(o, p), b) {
				t.Fatalf("%v %v: %x is none", o, p, b)
			}
			continue
		}
		if !Right(o, g) || !bytes.Equal(Put(o, g), b) || o.Fc != q.Fc {
			t.Fatalf("%v to %v: %x", g, o, b)
		}
		echo := bytes.Equal(pdu.Put(q)[:5], pdu.Put(o)[:5])
		if reads, _ := pdu.Reads(q.Fc); !reads && p.Code == 0 && !echo {
			t.Fatalf("%x answers %v and %v", b, q, o)
		}
	}
}

func TestAlarm(t *testing.T) {
	for code := -3; code < 300; code++ {
		for _, b := range [][]byte{nil, {}, {3}, {3, 4, 5}, {0x83}, {255, 1}} {
			a := Alarm(b, code)
			if code < 1 || code > 4 {
				if len(a) != 0 {
					t.Errorf("%x %d: %x", b, code, a)
				}
				continue
			}
			want := []byte{128, byte(code)}
			if len(b) > 0 {
				want[0] |= b[0]
			}
			if !bytes.Equal(a, want) {
				t.Errorf("%x %d: %x", b, code, a)
			}
		}
	}
}

func TestMemory(t *testing.T) {
	q := api.Req{Fc: 16, Qty: 2, Vals: []uint16{1, 2, 3, 4}[:2]}
	Put(q, api.Rep{})
	read := api.Req{Fc: 3, Qty: 2}
	p := api.Rep{Vals: []uint16{5, 6}}
	b := Put(read, p)
	kept := bytes.Clone(b)
	g, _ := Get(read, b)
	g.Vals[0] = 77
	a := Alarm(b, 1)
	a[0] = 0
	if !bytes.Equal(b, kept) || !slices.Equal(q.Vals[:4], []uint16{1, 2, 3, 4}) || p.Vals[0] != 5 {
		t.Error("memory is shared")
	}
}
