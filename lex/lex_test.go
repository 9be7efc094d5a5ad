package lex

import (
	"math/rand"
	"slices"
	"strings"
	"testing"

	"watchkeeper/api"
)

func same(a, b []api.Line) bool {
	return slices.EqualFunc(a, b, func(x, y api.Line) bool { return x.No == y.No && slices.Equal(x.Words, y.Words) })
}

func TestWord(t *testing.T) {
	for s, want := range map[string]bool{
		"": false, "a": true, "z": true, "0": true, "9": true, "a0z9": true, "abcdefghijklmnop": true, "abcdefghijklmnopq": false,
		"A": false, "a b": false, " a": false, "a ": false, "a\n": false, "a#": false, "a_": false, "`": false, "{": false, "/": false, ":": false, "\xe4": false, "ä": false, "\x00": false,
	} {
		if Word(s) != want {
			t.Errorf("%q: %v", s, !want)
		}
	}
	for i := range 256 {
		c := string([]byte{byte(i)})
		if Word(c) != strings.Contains("abcdefghijklmnopqrstuvwxyz0123456789", c) {
			t.Errorf("%q", c)
		}
	}
}

func TestLines(t *testing.T) {
	for _, c := range []struct {
		s    string
		want []api.Line
	}{
		{"", nil}, {"\n\n", nil}, {"  \n #x\n", nil},
		{"a # b", []api.Line{{No: 1, Words: []string{"a"}}}},
		{"a#b", []api.Line{{No: 1, Words: []string{"a"}}}},
		{"a b\n\n  c   d  \n#\ne", []api.Line{{No: 1, Words: []string{"a", "b"}}, {No: 3, Words: []string{"c", "d"}}, {No: 5, Words: []string{"e"}}}},
		{"\na\n", []api.Line{{No: 2, Words: []string{"a"}}}},
		{"a # \t A \xff # ? abcdefghijklmnopqrstuvwxyz", []api.Line{{No: 1, Words: []string{"a"}}}},
		{strings.Repeat("a ", 14), []api.Line{{No: 1, Words: strings.Fields(strings.Repeat("a ", 14))}}},
		{"# " + strings.Repeat("a ", 15), nil},
		{"abcdefghijklmnop 1234567890123456", []api.Line{{No: 1, Words: []string{"abcdefghijklmnop", "1234567890123456"}}}},
	} {
		if l, err, no := Lines(c.s); !same(l, c.want) || err != api.OK || no != 0 {
			t.Errorf("%q: %v %v %d", c.s, l, err, no)
		}
	}
}

func TestWrong(t *testing.T) {
	long, many := "abcdefghijklmnopq", strings.Repeat("a ", 15)
	for _, c := range []struct {
		s    string
		want api.Errno
		no   int
	}{
		{"A", api.ErrChar, 1}, {"a\n\nb\tc", api.ErrChar, 3}, {"a\r\n", api.ErrChar, 1}, {"a_b", api.ErrChar, 1}, {"a\n\xff#", api.ErrChar, 2}, {"a\x00", api.ErrChar, 1},
		{long, api.ErrWord, 1}, {"a\n  " + long + " b", api.ErrWord, 2}, {"a\n" + long + long, api.ErrWord, 2},
		{many, api.ErrTooMany, 1}, {"x\n" + many + "#", api.ErrTooMany, 2},
		{long + " A", api.ErrChar, 1}, {many + "A", api.ErrChar, 1}, {many + long, api.ErrWord, 1}, {many + long + "?", api.ErrChar, 1},
		{long + "\nA", api.ErrWord, 1}, {many + "\n" + long + "\nA", api.ErrTooMany, 1},
		{strings.Repeat(" ", 4097), api.ErrTooMany, 0}, {"A" + strings.Repeat(" ", 4096), api.ErrTooMany, 0}, {strings.Repeat("\n", 5000), api.ErrTooMany, 0},
		{strings.Repeat(" ", 4095) + "?", api.ErrChar, 1}, {strings.Repeat("\n", 4095) + "?", api.ErrChar, 4096},
	} {
		if l, err, no := Lines(c.s); len(l) != 0 || err != c.want || no != c.no {
			t.Errorf("%.40q: %v %v %d, not %v %d", c.s, l, err, no, c.want, c.no)
		}
	}
	if l, err, no := Lines(strings.Repeat(" ", 4095) + "a"); len(l) != 1 || err != api.OK || no != 0 {
		t.Error(l, err, no)
	}
}

func TestPrint(t *testing.T) {
	for _, c := range []struct {
		l    []api.Line
		want string
	}{
		{nil, ""}, {[]api.Line{{No: 9, Words: []string{"a", "b"}}, {No: 2, Words: []string{"c"}}}, "a b\nc\n"},
		{[]api.Line{{}, {Words: []string{"a"}}}, "\na\n"},
	} {
		if s := Print(c.l); s != c.want {
			t.Errorf("%v: %q", c.l, s)
		}
	}
}

func word(r *rand.Rand) string {
	const letters = "abcdefghijklmnopqrstuvwxyz0123456789"
	b := make([]byte, 1+r.Intn(16))
	for i := range b {
		b[i] = letters[r.Intn(len(letters))]
	}
	return string(b)
}

func text(r *rand.Rand) []api.Line {
	l := make([]api.Line, r.Intn(8))
	for i := range l {
		l[i].No = i + 1
		for range 1 + r.Intn(14) {
			l[i].Words = append(l[i].Words, word(r))
		}
	}
	return l
}

func TestThereAndBack(t *testing.T) {
	r := rand.New(rand.NewSource(1))
	for range 1000 {
		l := text(r)
		if g, err, no := Lines(Print(l)); !same(g, l) || err != api.OK || no != 0 {
			t.Fatalf("%v: %v %v %d", l, g, err, no)
		}
	}
}

// TestBlanksAndRemarks: more blanks, and remarks, change no word.
func TestBlanksAndRemarks(t *testing.T) {
	r := rand.New(rand.NewSource(2))
	blanks := func(least int) string { return strings.Repeat(" ", least+r.Intn(2)) }
	for range 1000 {
		l := text(r)
		var b strings.Builder
		for i := range l {
			b.WriteString(blanks(0))
			for _, w := range l[i].Words {
				b.WriteString(w + blanks(1))
			}
			if r.Intn(2) == 0 {
				b.WriteString("#? A\t# b")
			}
			b.WriteString("\n")
		}
		if b.Len() > api.MaxText {
			continue
		}
		if g, err, no := Lines(b.String()); !same(g, l) || err != api.OK || no != 0 {
			t.Fatalf("%q: %v %v %d", b.String(), g, err, no)
		}
	}
}

// TestAnyBytes: whatever the bytes are, the answer is lines of words, or an error with its line.
func TestAnyBytes(t *testing.T) {
	r := rand.New(rand.NewSource(3))
	const some = "ab0 \n#A\xff"
	for range 20000 {
		b := make([]byte, r.Intn(60))
		for i := range b {
			b[i] = some[min(r.Intn(12), r.Intn(12))%len(some)]
		}
		l, err, no := Lines(string(b))
		if (err == api.OK) != (no == 0) || err != api.OK && len(l) != 0 {
			t.Fatalf("%q: %v %v %d", b, l, err, no)
		}
		last := 0
		for _, x := range l {
			if x.No <= last || len(x.Words) == 0 || len(x.Words) > 14 {
				t.Fatalf("%q: %v", b, l)
			}
			last = x.No
			for _, w := range x.Words {
				if !Word(w) {
					t.Fatalf("%q: %q", b, w)
				}
			}
		}
	}
}

func TestMemory(t *testing.T) {
	w := []string{"a", "b", "c"}
	if Print([]api.Line{{Words: w[:2]}}) != "a b\n" || w[2] != "c" {
		t.Error(w)
	}
	l, _, _ := Lines("a b\nc d")
	_ = append(l[0].Words, "x")
	if l[1].Words[0] != "c" {
		t.Error(l)
	}
}
