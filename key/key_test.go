package key

import (
	"fmt"
	"hash/fnv"
	"math/rand"
	"slices"
	"strings"
	"testing"
)

// sums: a row of all that is put in is what the sum of the library's FNV-1a has, which is the same rounds.
func slow(key string) string {
	h := fnv.New64a()
	for t := range 64 {
		h.Write([]byte(key))
		h.Write([]byte{byte(t)})
	}
	return fmt.Sprintf("%016x", h.Sum64())
}

var none = []string{"", "\x00", "a\x00", "\x00a", "a\x00b", strings.Repeat("a", 33), strings.Repeat("a", 5000), strings.Repeat("a", 31) + "\x00"}

func random(r *rand.Rand, n int) string {
	b := make([]byte, n)
	for i := range b {
		b[i] = byte(1 + r.Intn(255))
	}
	return string(b)
}

func TestSum(t *testing.T) {
	r := rand.New(rand.NewSource(1))
	seen := map[string]string{}
	small := 0
	for i := range 4000 {
		k := random(r, 1+i%32)
		s := Sum(k)
		if s != slow(k) || len(s) != 16 {
			t.Fatalf("%q: %s, not %s", k, s, slow(k))
		}
		if other, is := seen[s]; is && other != k {
			t.Fatalf("%q and %q", k, other)
		}
		seen[s] = k
		if s[0] == '0' {
			small++
		}
		if !Match(s, k) || Match(s, k+"x") || Match(strings.ToUpper(s)+"", k) && strings.ToUpper(s) != s || Match(s[1:], k) || Match("", k) || Match(s+"0", k) {
			t.Fatalf("%q does not match %s, or matches others", k, s)
		}
	}
	if small == 0 {
		t.Error("no sum begins with a 0")
	}
	for _, k := range []string{"a", "abc", "\xff", strings.Repeat("z", 32)} {
		if Sum(k) != slow(k) {
			t.Errorf("%q: %s", k, Sum(k))
		}
	}
}

func TestNoKeys(t *testing.T) {
	for _, k := range none {
		if Sum(k) != "" || Match("", k) || Match(slow(k), k) || len(Words(k)) != 0 {
			t.Errorf("%q is a key", k)
		}
	}
}

func TestWords(t *testing.T) {
	for k, want := range map[string][]uint16{
		"abc": {0x6162, 0x6300}, "a": {0x6100}, "ab": {0x6162}, "\xff\xfe": {0xfffe}, "\x01": {0x100},
	} {
		if l := Words(k); !slices.Equal(l, want) {
			t.Errorf("%q: %x", k, l)
		}
		if Text(want) != k {
			t.Errorf("%x: %q", want, Text(want))
		}
	}
}

func TestThereAndBack(t *testing.T) {
	r := rand.New(rand.NewSource(2))
	for i := range 2000 {
		k := random(r, 1+i%32)
		l := Words(k)
		if len(l) != (len(k)+1)/2 || Text(l) != k {
			t.Fatalf("%q: %x %q", k, l, Text(l))
		}
		if len(k) < 32 && Text(append(l, 0, 0x4142)) != k {
			t.Fatalf("%q with more behind a 0: %q", k, Text(append(l, 0, 0x4142)))
		}
	}
}

func TestText(t *testing.T) {
	full := Words(strings.Repeat("ab", 16))
	for i, c := range []struct {
		l    []uint16
		want string
	}{
		{nil, ""}, {[]uint16{}, ""}, {[]uint16{0}, ""}, {[]uint16{0x61, 0x6161}, ""}, {[]uint16{0x6100, 0x6161}, "a"}, {[]uint16{0x6162, 0x63}, "ab"},
		{full, strings.Repeat("ab", 16)}, {append(slices.Clone(full), 0), strings.Repeat("ab", 16)}, {append(slices.Clone(full), 0x61), strings.Repeat("ab", 16)},
		{append(slices.Clone(full), 0x6100), ""}, {append(slices.Clone(full), 0x6161), ""}, {slices.Repeat([]uint16{0x6161}, 3000), ""},
	} {
		if s := Text(c.l); s != c.want {
			t.Errorf("%d: %q", i, s)
		}
	}
}

func TestMemory(t *testing.T) {
	l := []uint16{0x6162, 0x6300, 9}
	Text(l[:1])
	if !slices.Equal(l, []uint16{0x6162, 0x6300, 9}) {
		t.Error(l)
	}
}
