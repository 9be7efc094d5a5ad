package rtu

import (
	"bytes"
	"math/rand"
	"testing"

	"watchkeeper/api"
	"watchkeeper/crc"
)

func some(r *rand.Rand, n int) []byte {
	b := make([]byte, n)
	r.Read(b)
	return b
}

func TestPutOfTheDocument(t *testing.T) {
	f := Put(17, []byte{3, 0, 0x6b, 0, 3})
	if want := []byte{0x11, 3, 0, 0x6b, 0, 3, 0x76, 0x87}; !bytes.Equal(f, want) {
		t.Errorf("%x, not %x", f, want)
	}
}

func TestPutOfNone(t *testing.T) {
	for _, n := range []int{0, 254, 255, 300, 5000} {
		if f := Put(1, make([]byte, n)); len(f) != 0 {
			t.Errorf("%d bytes are framed", n)
		}
	}
	if f := Put(1, nil); len(f) != 0 {
		t.Error("nil is framed")
	}
}

func TestThereAndBack(t *testing.T) {
	r := rand.New(rand.NewSource(1))
	for n := 1; n <= 253; n++ {
		unit, pdu := byte(r.Intn(256)), some(r, n)
		f := Put(unit, pdu)
		if len(f) != n+3 || f[0] != unit || crc.Sum(f) != 0 {
			t.Fatalf("%d: %x", n, f)
		}
		u, p, err := Get(f)
		if u != unit || !bytes.Equal(p, pdu) || err != api.OK {
			t.Fatalf("%x: %d %x %v", f, u, p, err)
		}
		if !bytes.Equal(Put(u, p), f) {
			t.Fatalf("%x is put otherwise", f)
		}
	}
}

func TestGetOfNone(t *testing.T) {
	long := crc.Seal(make([]byte, 255))
	turned := Put(1, []byte{3, 4})
	turned[1] ^= 1
	for _, c := range []struct {
		b    []byte
		want api.Errno
	}{
		{nil, api.ErrShort},
		{[]byte{1}, api.ErrShort},
		{crc.Seal(nil), api.ErrShort},
		{crc.Seal([]byte{1}), api.ErrShort},
		{[]byte{1, 2, 3}, api.ErrShort},
		{[]byte{1, 2, 3, 4}, api.ErrSum},
		{turned, api.ErrSum},
		{make([]byte, 256), api.ErrSum},
		{make([]byte, 257), api.ErrLong},
		{long, api.ErrLong},
		{make([]byte, 9000), api.ErrLong},
	} {
		if u, p, err := Get(c.b); u != 0 || len(p) != 0 || err != c.want {
			t.Errorf("%x: %d %x %v, not %v", c.b, u, p, err, c.want)
		}
	}
}

func TestEarThatHeardNothing(t *testing.T) {
	e := New()
	for range 2 {
		if u, p, err, is := e.Silence(); u != 0 || len(p) != 0 || err != api.OK || is {
			t.Error(u, p, err, is)
		}
		e.Hear(nil)
		e.Hear([]byte{})
		if e.Many() != 0 {
			t.Error(e.Many())
		}
	}
}

func TestEarCounts(t *testing.T) {
	e := New()
	for i := 1; i <= 300; i++ {
		e.Hear([]byte{1})
		if e.Many() != min(i, 257) {
			t.Fatalf("%d heard: %d", i, e.Many())
		}
	}
	e.Hear(nil)
	if e.Many() != 257 {
		t.Error(e.Many())
	}
	if u, p, err, is := e.Silence(); u != 0 || len(p) != 0 || err != api.ErrLong || !is {
		t.Error(u, p, err, is)
	}
	if e.Many() != 0 {
		t.Error(e.Many())
	}
	e.Hear(make([]byte, 257))
	if e.Many() != 257 {
		t.Error(e.Many())
	}
	e.Silence()
	e.Hear(make([]byte, 256))
	if _, _, err, is := e.Silence(); err != api.ErrSum || !is {
		t.Error(err, is)
	}
	e.Hear([]byte{1, 2})
	if _, _, err, is := e.Silence(); err != api.ErrShort || !is {
		t.Error(err, is)
	}
}

// TestPieces: bytes that are heard in pieces, with silences between, are what Get has of each row of them, at once.
func TestPieces(t *testing.T) {
	r := rand.New(rand.NewSource(2))
	e := New()
	for range 3000 {
		b := some(r, r.Intn(300))
		if r.Intn(3) > 0 {
			b = Put(byte(r.Intn(256)), some(r, 1+r.Intn(253)))
		}
		for left := b; len(left) > 0; {
			n := 1 + r.Intn(len(left))
			if r.Intn(2) == 0 {
				n = min(n, 3)
			}
			e.Hear(left[:n])
			left = left[n:]
		}
		if e.Many() != min(len(b), 257) {
			t.Fatalf("%d, not %d", e.Many(), len(b))
		}
		u, p, err, is := e.Silence()
		if len(b) == 0 {
			if is {
				t.Fatal("something was heard")
			}
			continue
		}
		wu, wp, werr := Get(b)
		if u != wu || !bytes.Equal(p, wp) || err != werr || !is {
			t.Fatalf("%x: %d %x %v %v", b, u, p, err, is)
		}
	}
}

// TestTooLongInPieces: a frame with more behind it is none, in whichever pieces.
func TestTooLongInPieces(t *testing.T) {
	f := Put(1, make([]byte, 253))
	e := New()
	e.Hear(f)
	e.Hear([]byte{0})
	if _, _, err, is := e.Silence(); err != api.ErrLong || !is {
		t.Error(err, is)
	}
	e.Hear(f)
	if u, p, err, is := e.Silence(); u != 1 || len(p) != 253 || err != api.OK || !is {
		t.Error(u, p, err, is)
	}
}

func TestMemory(t *testing.T) {
	room := []byte{1, 2, 3, 4, 5, 6, 7, 8}
	Put(9, room[:3])
	f := Put(9, room)
	kept := bytes.Clone(f)
	_, p, _ := Get(f)
	e := New()
	e.Hear(f)
	f[3] ^= 1
	_, heard, err, _ := e.Silence()
	if err != api.OK {
		t.Error("what is heard is kept by its memory")
	}
	again := bytes.Clone(heard)
	e.Hear(make([]byte, 200))
	if !bytes.Equal(heard, again) {
		t.Error("what is answered changes later")
	}
	f[3] ^= 1
	for i := range p[:cap(p)] {
		p[:cap(p)][i] = 99
	}
	if !bytes.Equal(f, kept) || !bytes.Equal(room, []byte{1, 2, 3, 4, 5, 6, 7, 8}) {
		t.Error("memory is shared")
	}
}

// TestEarsApart: two ears hear nothing of each other.
func TestEarsApart(t *testing.T) {
	a, b := New(), New()
	a.Hear(Put(1, []byte{7}))
	if b.Many() != 0 {
		t.Error(b.Many())
	}
	b.Hear(Put(2, []byte{8}))
	if u, p, _, _ := a.Silence(); u != 1 || p[0] != 7 {
		t.Error(u, p)
	}
}
