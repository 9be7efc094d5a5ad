package slave

import (
	"bytes"
	"math/rand"
	"slices"
	"strings"
	"testing"

	"watchkeeper/api"
	"watchkeeper/key"
	"watchkeeper/pdu"
	"watchkeeper/reply"
)

func bools(l ...int) []bool {
	out := make([]bool, len(l))
	for i, v := range l {
		out[i] = v == 1
	}
	return out
}

func TestBits(t *testing.T) {
	if l := Bits(api.View{}); !slices.Equal(l, make([]uint16, 32)) {
		t.Error(l)
	}
	v := api.View{Causes: bools(1, 0, 1), Effects: bools(0, 1), Bypassed: bools(1, 1, 1, 1, 1, 1, 1, 1, 1, 1), Trips: bools(0, 0, 0, 0, 0, 0, 0, 1, 1)}
	want := []uint16{1, 0, 1, 0, 0, 0, 0, 0, 0, 1, 0, 0, 0, 0, 0, 0, 1, 1, 1, 1, 1, 1, 1, 1, 0, 0, 0, 0, 0, 0, 0, 1}
	if l := Bits(v); !slices.Equal(l, want) {
		t.Error(l)
	}
	if l := Bits(api.View{Causes: slices.Repeat([]bool{true}, 40), Effects: slices.Repeat([]bool{true}, 9)}); !slices.Equal(l, append(slices.Repeat([]uint16{1}, 16), make([]uint16, 16)...)) {
		t.Error(l)
	}
}

func TestRegs(t *testing.T) {
	if l := Regs(api.View{}); !slices.Equal(l, make([]uint16, 34)) {
		t.Error(l)
	}
	v := api.View{Looks: []int{1, 65536, -1, 65537}, Horn: 65538, Notes: []api.Note{{Kind: 1, Who: 2, At: 3}, {Kind: 65540, Who: -2, At: 1<<40 + 7}}}
	want := make([]uint16, 34)
	copy(want, []uint16{1, 0, 65535, 1, 0, 0, 0, 0, 2, 2, 4, 65534, 7, 1, 2, 3})
	if l := Regs(v); !slices.Equal(l, want) {
		t.Error(l)
	}
	v = api.View{Looks: []int{1, 2, 3, 4, 5, 6, 7, 8, 9, 10}, Horn: -1}
	for i := range 32 {
		v.Notes = append(v.Notes, api.Note{Kind: i, Who: 100 + i, At: int64(200 + i)})
	}
	want = []uint16{1, 2, 3, 4, 5, 6, 7, 8, 65535, 32}
	for i := 31; i > 23; i-- {
		want = append(want, uint16(i), uint16(100+i), uint16(200+i))
	}
	if l := Regs(v); !slices.Equal(l, want) {
		t.Error(l)
	}
	v.Notes = slices.Repeat([]api.Note{{Kind: 5}}, 65537)
	if l := Regs(v); l[9] != 1 || l[10] != 5 {
		t.Error(l)
	}
}

// ask serves a request: the answer.
func ask(t *testing.T, s *Slave, q api.Req) api.Rep {
	t.Helper()
	b, c, is := s.Serve(pdu.Put(q))
	p, err := reply.Get(q, b)
	if is || c != (api.Cmd{}) || err == api.ErrReply {
		t.Fatalf("%v: %x %v %v", q, b, c, is)
	}
	return p
}

func shows(t *testing.T, s *Slave, bits, regs []uint16) {
	t.Helper()
	if p := ask(t, s, api.Req{Fc: api.ReadInputs, Qty: 32}); !slices.Equal(p.Vals, bits) {
		t.Fatalf("%v, not %v", p.Vals, bits)
	}
	if p := ask(t, s, api.Req{Fc: api.ReadRegs, Qty: 34}); !slices.Equal(p.Vals, regs) {
		t.Fatalf("%v, not %v", p.Vals, regs)
	}
}

func TestPlaces(t *testing.T) {
	s := New()
	shows(t, s, make([]uint16, 32), make([]uint16, 34))
	if p := ask(t, s, api.Req{Fc: api.ReadHolding, Qty: 19}); !slices.Equal(p.Vals, make([]uint16, 19)) {
		t.Error(p)
	}
	for _, q := range []api.Req{{Fc: 1, Qty: 1}, {Fc: 2, Addr: 32, Qty: 1}, {Fc: 3, Addr: 19, Qty: 1}, {Fc: 4, Addr: 34, Qty: 1}, {Fc: 5, Vals: []uint16{1}}, {Fc: 16, Addr: 18, Qty: 2, Vals: []uint16{1, 1}}} {
		if p := ask(t, s, q); p.Code != api.ExAddress {
			t.Error(q, p)
		}
	}
	for b, want := range map[string]string{"": "\x80\x01", "\x07": "\x87\x01", "\x03": "\x83\x03"} {
		if a, c, is := s.Serve([]byte(b)); string(a) != want || c != (api.Cmd{}) || is {
			t.Errorf("%q: %q %v %v", b, a, c, is)
		}
	}
}

func TestShow(t *testing.T) {
	s := New()
	v := api.View{Looks: []int{3}, Horn: 2, Causes: bools(1), Trips: bools(0, 1), Notes: []api.Note{{Kind: 1, Who: 2, At: 3}}}
	s.Show(v)
	shows(t, s, Bits(v), Regs(v))
	ask(t, s, api.Req{Fc: 6, Addr: 5, Vals: []uint16{7}})
	shows(t, s, Bits(v), Regs(v))
	s.Serve(pdu.Put(api.Req{Fc: 6, Vals: []uint16{1}}))
	shows(t, s, Bits(v), Regs(v))
	s.Show(api.View{})
	shows(t, s, make([]uint16, 32), make([]uint16, 34))
}

func write(at int, l ...uint16) api.Req {
	return api.Req{Fc: api.WriteRegs, Addr: at, Qty: len(l), Vals: l}
}

func TestCommand(t *testing.T) {
	const secret = "open sesame"
	words := make([]uint16, 16)
	copy(words, key.Words(secret))
	s := New()
	b, c, is := s.Serve(pdu.Put(write(0, append([]uint16{api.CmdReset, 4, 65535}, words...)...)))
	if !bytes.Equal(b, []byte{16, 0, 0, 0, 19}) || !is || c != (api.Cmd{Code: 8, Cause: 4, Ticks: 65535, Key: secret}) {
		t.Errorf("%x %v %v", b, c, is)
	}
	none := func() {
		t.Helper()
		if p := ask(t, s, api.Req{Fc: 3, Qty: 19}); !slices.Equal(p.Vals, make([]uint16, 19)) {
			t.Fatal(p)
		}
	}
	none()
	// In pieces: the code comes last.
	ask(t, s, write(3, words...))
	ask(t, s, write(1, 7, 9))
	if p := ask(t, s, api.Req{Fc: 3, Addr: 3, Qty: 16}); !slices.Equal(p.Vals, words) {
		t.Error(p)
	}
	if _, c, is := s.Serve(pdu.Put(api.Req{Fc: 6, Vals: []uint16{900}})); !is || c != (api.Cmd{Code: 900, Cause: 7, Ticks: 9, Key: secret}) {
		t.Error(c, is)
	}
	none()
	if _, c, is := s.Serve(pdu.Put(write(0, 1))); !is || c != (api.Cmd{Code: 1}) {
		t.Error(c, is)
	}
	none()
	// The answer to what brings the code may have all of it.
	ask(t, s, write(3, 0x4142))
	swap := api.Req{Fc: api.SwapRegs, Addr: 0, Qty: 4, To: 0, Vals: []uint16{6, 1}}
	b, c, is = s.Serve(pdu.Put(swap))
	if p, err := reply.Get(swap, b); err != api.OK || !slices.Equal(p.Vals, []uint16{6, 1, 0, 0x4142}) || !is || c != (api.Cmd{Code: 6, Cause: 1, Key: "AB"}) {
		t.Error(p, c, is)
	}
	none()
	if _, c, is := s.Serve(pdu.Put(api.Req{Fc: api.MaskReg, Addr: 0, Vals: []uint16{0, 5}})); !is || c != (api.Cmd{Code: 5}) {
		t.Error(c, is)
	}
	none()
	// A code of 0 is none; what is an exception writes nothing.
	ask(t, s, write(0, 0, 3))
	ask(t, s, write(18, 1, 1))
	if p := ask(t, s, api.Req{Fc: 3, Qty: 3}); !slices.Equal(p.Vals, []uint16{0, 3, 0}) {
		t.Error(p)
	}
	full := strings.Repeat("k", 32)
	ask(t, s, write(3, key.Words(full)...))
	if _, c, is := s.Serve(pdu.Put(write(0, 65535))); !is || c != (api.Cmd{Code: 65535, Cause: 3, Key: full}) {
		t.Error(c, is)
	}
}

// TestOnce: whatever is asked, a command is told just by what has a code stand, and all of it is gone then; what is shown stays.
func TestOnce(t *testing.T) {
	r := rand.New(rand.NewSource(1))
	s := New()
	v := api.View{Looks: []int{2}, Causes: bools(0, 1)}
	s.Show(v)
	model := make([]uint16, 19)
	told := 0
	for range 5000 {
		at := r.Intn(20)
		l := make([]uint16, 1+r.Intn(3))
		for i := range l {
			l[i] = uint16(r.Intn(3)) * 0x4101
		}
		_, c, is := s.Serve(pdu.Put(write(at, l...)))
		if at+len(l) <= 19 {
			copy(model[at:], l)
		}
		want := api.Cmd{}
		if model[0] != 0 {
			want = api.Cmd{Code: int(model[0]), Cause: int(model[1]), Ticks: int64(model[2]), Key: key.Text(model[3:])}
			told++
		}
		if c != want || is != (model[0] != 0) {
			t.Fatalf("%v %v, not %v", c, is, want)
		}
		if is {
			model = make([]uint16, 19)
		}
		if p := ask(t, s, api.Req{Fc: 3, Qty: 19}); !slices.Equal(p.Vals, model) {
			t.Fatal(p, model)
		}
		shows(t, s, Bits(v), Regs(v))
	}
	if told < 50 {
		t.Error(told)
	}
}

func TestMemory(t *testing.T) {
	s, other := New(), New()
	v := api.View{Looks: []int{2}, Causes: bools(1)}
	s.Show(v)
	want := Regs(v)
	v.Looks[0] = 3
	shows(t, s, Bits(v), want)
	shows(t, other, make([]uint16, 32), make([]uint16, 34))
	asked := append(pdu.Put(write(0, 1)), 77)
	kept := bytes.Clone(asked)
	s.Serve(asked[:len(asked)-1])
	if !bytes.Equal(asked, kept) {
		t.Error(asked)
	}
}
