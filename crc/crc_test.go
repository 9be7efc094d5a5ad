package crc

import (
	"bytes"
	"math/rand"
	"testing"
)

// slow is A1 to the letter.
func slow(b []byte) uint16 {
	sum := 65535
	for _, x := range b {
		sum ^= int(x)
		for i := 0; i < 8; i++ {
			odd := sum%2 == 1
			sum /= 2
			if odd {
				sum ^= 40961
			}
		}
	}
	return uint16(sum)
}

func some(r *rand.Rand, n int) []byte {
	b := make([]byte, n)
	r.Read(b)
	return b
}

func TestSumOfKnownBytes(t *testing.T) {
	for _, c := range []struct {
		in   string
		want uint16
	}{
		{"", 65535},
		{"123456789", 19255},
		{"\x00", 0x40bf},
		{"\xff", 0x00ff},
		{"\x11\x03\x00\x6b\x00\x03", 0x8776},
	} {
		if s := Sum([]byte(c.in)); s != c.want {
			t.Errorf("%q: %04x, not %04x", c.in, s, c.want)
		}
	}
	if Sum(nil) != 65535 {
		t.Error("of nil")
	}
}

func TestSumAsTheDocumentSays(t *testing.T) {
	for i := range 256 {
		if b := []byte{byte(i)}; Sum(b) != slow(b) {
			t.Errorf("%x: %04x, not %04x", b, Sum(b), slow(b))
		}
	}
	r := rand.New(rand.NewSource(1))
	for n := range 600 {
		if b := some(r, n); Sum(b) != slow(b) {
			t.Fatalf("%x: %04x, not %04x", b, Sum(b), slow(b))
		}
	}
}

func TestSealAndOpen(t *testing.T) {
	r := rand.New(rand.NewSource(2))
	for n := range 300 {
		b := some(r, n)
		s := Seal(b)
		if len(s) != n+2 || !bytes.Equal(s[:n], b) || s[n] != byte(slow(b)) || s[n+1] != byte(slow(b)>>8) {
			t.Fatalf("%x sealed: %x", b, s)
		}
		if Sum(s) != 0 {
			t.Fatalf("%x: the sum of what is sealed is %04x", b, Sum(s))
		}
		if o, is := Open(s); !is || !bytes.Equal(o, b) {
			t.Fatalf("%x opened: %x %v", s, o, is)
		}
	}
}

// TestOpenIsSealBackwards: what is opened is sealed to the same, of whatever bytes.
func TestOpenIsSealBackwards(t *testing.T) {
	many := 0
	for i := range 1 << 16 {
		b := []byte{byte(i), byte(i >> 8)}
		o, is := Open(b)
		if is {
			many++
		}
		if is && !bytes.Equal(Seal(o), b) || !is && len(o) != 0 {
			t.Fatalf("%x: %x %v", b, o, is)
		}
		b = append([]byte{9}, b...)
		o, is = Open(b)
		if is != (slow([]byte{9}) == uint16(i)) || is && !bytes.Equal(o, []byte{9}) || !is && len(o) != 0 {
			t.Fatalf("%x: %x %v", b, o, is)
		}
	}
	if many != 1 {
		t.Errorf("%d of two bytes are sealed", many)
	}
}

func TestOpenOfNone(t *testing.T) {
	for _, b := range [][]byte{nil, {}, {0}, {0xff}, {0, 0}, {0xff, 0}, {0, 0, 0}, []byte("123456789\x4b\x37")} {
		if o, is := Open(b); is || len(o) != 0 {
			t.Errorf("%x: %x %v", b, o, is)
		}
	}
}

func TestTurnedBits(t *testing.T) {
	r := rand.New(rand.NewSource(3))
	for _, n := range []int{0, 1, 6, 60, 254} {
		s := Seal(some(r, n))
		for i := range 8 * len(s) {
			for _, second := range []int{i, i + 1} {
				x := bytes.Clone(s)
				x[i/8] ^= 1 << (i % 8)
				if second != i && second < 8*len(s) {
					x[second/8] ^= 1 << (second % 8)
				}
				if o, is := Open(x); is || len(o) != 0 {
					t.Fatalf("%x with the bits %d, %d turned is opened", s, i, second)
				}
			}
		}
	}
}

// TestMemory: nothing that is handed in changes, nor its spare room, and what comes out is new.
func TestMemory(t *testing.T) {
	room := []byte{1, 2, 3, 4, 5, 6}
	s := Seal(room[:3])
	if !bytes.Equal(room, []byte{1, 2, 3, 4, 5, 6}) {
		t.Errorf("changed: %x", room)
	}
	s[0] = 9
	if room[0] != 1 {
		t.Error("Seal shares memory")
	}
	s = Seal(room)
	kept := bytes.Clone(s)
	o, _ := Open(s)
	if !bytes.Equal(s, kept) {
		t.Error("Open changed its argument")
	}
	o[0] = 77
	for i := range o[len(o):cap(o)] {
		o[:cap(o)][len(o)+i] = 78
	}
	if !bytes.Equal(s, kept) {
		t.Error("Open shares memory")
	}
}
