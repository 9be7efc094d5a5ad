package matrix

import (
	"math/rand"
	"reflect"
	"strconv"
	"strings"
	"testing"

	"watchkeeper/api"
	"watchkeeper/lex"
)

const key16 = "0123456789abcdef"

// sample is a right matrix with two of each.
func sample() api.Matrix {
	return api.Matrix{
		Retries: 2, Wait: 5, Back: 20, Cycle: 10, Key: key16,
		Devices: []api.Device{{Name: "d", Line: 0, Unit: 17}, {Name: "e", Line: 2, Unit: 1}},
		Points:  []api.Point{{Name: "p", Device: 0, Place: 3, Trip: 1, On: 5}, {Name: "q", Device: 1, Place: 255, Off: 7}},
		Causes:  []api.Cause{{Name: "c", Votes: 2, Lamp: 4, Limit: 100, Points: []int{1, 0}}, {Name: "c2", Votes: 1, Lamp: 1, Points: []int{0}}},
		Effects: []api.Effect{{Name: "f", Device: 1, Place: 0, Safe: 1, Causes: []int{1, 0}}, {Name: "g", Device: 0, Place: 9, Causes: []int{0}}},
	}
}

const sampleText = `watch 2 5 20 10
key 0123456789abcdef
device d 0 17
device e 2 1
point p d 3 1 5 0
point q e 255 0 0 7
cause c 2 f1a 100 q p
cause c2 1 a 0 p
effect f e 0 1 c2 c
effect g d 9 0 c
`

func empty(m api.Matrix) bool { return reflect.DeepEqual(m, api.Matrix{}) }

// same holds matrices against each other, empty lists nil or not.
func same(a, b api.Matrix) bool {
	for _, m := range []*api.Matrix{&a, &b} {
		m.Devices = append([]api.Device(nil), m.Devices...)
		m.Points = append([]api.Point(nil), m.Points...)
		m.Causes = append([]api.Cause(nil), m.Causes...)
		m.Effects = append([]api.Effect(nil), m.Effects...)
	}
	return reflect.DeepEqual(a, b)
}

func TestSample(t *testing.T) {
	m := sample()
	if !Right(m) {
		t.Fatal("it is not right")
	}
	if s := Print(m); s != sampleText {
		t.Errorf("%s", s)
	}
	if g, err, no := Parse(sampleText); !same(g, m) || err != api.OK || no != 0 {
		t.Error(g, err, no)
	}
	least := api.Matrix{Wait: 1, Cycle: 1, Key: key16}
	if !Right(least) || Print(least) != "watch 0 1 0 1\nkey 0123456789abcdef\n" {
		t.Error(Right(least), Print(least))
	}
	if Right(api.Matrix{}) || Print(api.Matrix{}) != "" {
		t.Error("a zero one is right")
	}
}

// TestRight: each change makes a right one none, or leaves it right.
func TestRight(t *testing.T) {
	for name, change := range map[string]func(*api.Matrix){
		"retries -1":         func(m *api.Matrix) { m.Retries = -1 },
		"retries 8":          func(m *api.Matrix) { m.Retries = 8 },
		"wait 0":             func(m *api.Matrix) { m.Wait = 0 },
		"wait 1001":          func(m *api.Matrix) { m.Wait = 1001 },
		"back -1":            func(m *api.Matrix) { m.Back = -1 },
		"back 1001":          func(m *api.Matrix) { m.Back = 1001 },
		"cycle 0":            func(m *api.Matrix) { m.Cycle = 0 },
		"cycle 1001":         func(m *api.Matrix) { m.Cycle = 1001 },
		"no key":             func(m *api.Matrix) { m.Key = "" },
		"key of 15":          func(m *api.Matrix) { m.Key = key16[1:] },
		"key of 17":          func(m *api.Matrix) { m.Key += "0" },
		"key with g":         func(m *api.Matrix) { m.Key = "0123456789abcdeg" },
		"key with A":         func(m *api.Matrix) { m.Key = "0123456A89abcdef" },
		"key with a blank":   func(m *api.Matrix) { m.Key = "0123456 89abcdef" },
		"a name that none":   func(m *api.Matrix) { m.Devices[0].Name = "" },
		"a name with A":      func(m *api.Matrix) { m.Points[0].Name = "A" },
		"a name of 17":       func(m *api.Matrix) { m.Causes[0].Name = "abcdefghijklmnopq" },
		"a name with blanks": func(m *api.Matrix) { m.Effects[0].Name = "a b" },
		"two devices' names": func(m *api.Matrix) { m.Devices[1].Name = "d" },
		"device and point":   func(m *api.Matrix) { m.Points[1].Name = "d" },
		"point and cause":    func(m *api.Matrix) { m.Causes[1].Name = "p" },
		"cause and effect":   func(m *api.Matrix) { m.Effects[1].Name = "c" },
		"device and effect":  func(m *api.Matrix) { m.Effects[1].Name = "e" },
		"line -1":            func(m *api.Matrix) { m.Devices[0].Line = -1 },
		"line 4":             func(m *api.Matrix) { m.Devices[0].Line = 4 },
		"unit 0":             func(m *api.Matrix) { m.Devices[0].Unit = 0 },
		"unit 248":           func(m *api.Matrix) { m.Devices[0].Unit = 248 },
		"line and unit":      func(m *api.Matrix) { m.Devices[1].Line, m.Devices[1].Unit = 0, 17 },
		"5 devices": func(m *api.Matrix) {
			m.Devices = append(m.Devices, api.Device{Name: "x", Unit: 1}, api.Device{Name: "y", Unit: 2}, api.Device{Name: "z", Unit: 3})
		},
		"17 points": func(m *api.Matrix) {
			for i := range 15 {
				m.Points = append(m.Points, api.Point{Name: "x" + strconv.Itoa(i), Place: 100 + i})
			}
		},
		"9 causes": func(m *api.Matrix) {
			for i := range 7 {
				m.Causes = append(m.Causes, api.Cause{Name: "x" + strconv.Itoa(i), Votes: 1, Lamp: 1, Points: []int{0}})
			}
		},
		"9 effects": func(m *api.Matrix) {
			for i := range 7 {
				m.Effects = append(m.Effects, api.Effect{Name: "x" + strconv.Itoa(i), Place: 100 + i, Causes: []int{0}})
			}
		},
		"no such device":   func(m *api.Matrix) { m.Points[0].Device = 2 },
		"device -1":        func(m *api.Matrix) { m.Points[0].Device = -1 },
		"place -1":         func(m *api.Matrix) { m.Points[0].Place = -1 },
		"place 256":        func(m *api.Matrix) { m.Points[0].Place = 256 },
		"trip 2":           func(m *api.Matrix) { m.Points[0].Trip = 2 },
		"trip -1":          func(m *api.Matrix) { m.Points[0].Trip = -1 },
		"on -1":            func(m *api.Matrix) { m.Points[0].On = -1 },
		"on 1001":          func(m *api.Matrix) { m.Points[0].On = 1001 },
		"off -1":           func(m *api.Matrix) { m.Points[0].Off = -1 },
		"off 1001":         func(m *api.Matrix) { m.Points[0].Off = 1001 },
		"device and place": func(m *api.Matrix) { m.Points[1].Device, m.Points[1].Place = 0, 3 },
		"5 points, each another one": func(m *api.Matrix) {
			for i := range 3 {
				m.Points = append(m.Points, api.Point{Name: "x" + strconv.Itoa(i), Place: 100 + i})
			}
			m.Causes[0].Points = []int{0, 1, 2, 3, 4}
		},
		"no points":               func(m *api.Matrix) { m.Causes[0].Points = nil },
		"5 points":                func(m *api.Matrix) { m.Causes[0].Points = []int{0, 1, 0, 1, 0} },
		"a point twice":           func(m *api.Matrix) { m.Causes[0].Points = []int{1, 1} },
		"no such point":           func(m *api.Matrix) { m.Causes[0].Points = []int{0, 2} },
		"point -1":                func(m *api.Matrix) { m.Causes[0].Points = []int{-1, 0} },
		"votes 0":                 func(m *api.Matrix) { m.Causes[0].Votes = 0 },
		"votes above":             func(m *api.Matrix) { m.Causes[0].Votes = 3 },
		"lamp 0":                  func(m *api.Matrix) { m.Causes[0].Lamp = 0 },
		"lamp 7":                  func(m *api.Matrix) { m.Causes[0].Lamp = 7 },
		"limit -1":                func(m *api.Matrix) { m.Causes[0].Limit = -1 },
		"limit 100001":            func(m *api.Matrix) { m.Causes[0].Limit = 100001 },
		"effect's device":         func(m *api.Matrix) { m.Effects[0].Device = 2 },
		"effect's device -1":      func(m *api.Matrix) { m.Effects[0].Device = -1 },
		"effect's place -1":       func(m *api.Matrix) { m.Effects[0].Place = -1 },
		"effect's place 256":      func(m *api.Matrix) { m.Effects[0].Place = 256 },
		"safe 2":                  func(m *api.Matrix) { m.Effects[0].Safe = 2 },
		"safe -1":                 func(m *api.Matrix) { m.Effects[0].Safe = -1 },
		"no causes":               func(m *api.Matrix) { m.Effects[0].Causes = nil },
		"a cause twice":           func(m *api.Matrix) { m.Effects[0].Causes = []int{0, 0} },
		"no such cause":           func(m *api.Matrix) { m.Effects[0].Causes = []int{2} },
		"cause -1":                func(m *api.Matrix) { m.Effects[0].Causes = []int{-1} },
		"9 causes of an effect":   func(m *api.Matrix) { m.Effects[0].Causes = []int{0, 1, 0, 1, 0, 1, 0, 1, 0} },
		"effects' device and one": func(m *api.Matrix) { m.Effects[1].Device, m.Effects[1].Place = 1, 0 },
	} {
		m := sample()
		change(&m)
		if Right(m) || Print(m) != "" {
			t.Errorf("%s is right", name)
		}
	}
	for name, change := range map[string]func(*api.Matrix){
		"most times":          func(m *api.Matrix) { m.Retries, m.Wait, m.Back, m.Cycle = 7, 1000, 1000, 1000 },
		"unit of two lines":   func(m *api.Matrix) { m.Devices[1].Unit = 17 },
		"line of two units":   func(m *api.Matrix) { m.Devices[1].Line, m.Devices[1].Unit = 0, 247 },
		"place of two":        func(m *api.Matrix) { m.Points[1].Place = 3 },
		"a point's place":     func(m *api.Matrix) { m.Effects[1].Place = 3 },
		"most of a point":     func(m *api.Matrix) { m.Points[0].On, m.Points[0].Off, m.Points[0].Place = 1000, 1000, 0 },
		"most limit":          func(m *api.Matrix) { m.Causes[0].Limit = 100000 },
		"names of first word": func(m *api.Matrix) { m.Devices[0].Name, m.Points[0].Name = "watch", "0" },
		"no effects":          func(m *api.Matrix) { m.Effects = nil },
	} {
		m := sample()
		change(&m)
		if !Right(m) {
			t.Errorf("%s is not right", name)
		}
		if g, err, no := Parse(Print(m)); !same(g, m) || err != api.OK || no != 0 {
			t.Errorf("%s: %v %v %d", name, g, err, no)
		}
	}
}

func word(r *rand.Rand, i int) string {
	const letters = "abcdefghijklmnopqrstuvwxyz0123456789"
	s := strconv.Itoa(i) + "x"
	for range r.Intn(13) {
		s += string(letters[r.Intn(len(letters))])
	}
	return s
}

func some(r *rand.Rand, most, many int) []int { return r.Perm(many)[:1+r.Intn(min(most, many))] }

// random is a right matrix.
func random(r *rand.Rand) api.Matrix {
	n := 0
	name := func() string { n++; return word(r, n) }
	m := api.Matrix{Retries: r.Int63n(8), Wait: 1 + r.Int63n(1000), Back: r.Int63n(1001), Cycle: 1 + r.Int63n(1000), Key: key16[8:] + key16[:8]}
	for i := range r.Intn(5) {
		m.Devices = append(m.Devices, api.Device{Name: name(), Line: r.Intn(4), Unit: 1 + r.Intn(60) + 60*i})
	}
	if len(m.Devices) == 0 {
		return m
	}
	place := r.Perm(256)
	for i := range r.Intn(17) {
		m.Points = append(m.Points, api.Point{Name: name(), Device: r.Intn(len(m.Devices)), Place: place[i], Trip: r.Intn(2), On: r.Int63n(1001), Off: r.Int63n(1001)})
	}
	if len(m.Points) == 0 {
		return m
	}
	for range r.Intn(9) {
		p := some(r, 4, len(m.Points))
		m.Causes = append(m.Causes, api.Cause{Name: name(), Votes: 1 + r.Intn(len(p)), Lamp: 1 + r.Intn(6), Limit: r.Int63n(100001), Points: p})
	}
	if len(m.Causes) == 0 {
		return m
	}
	for i := range r.Intn(9) {
		m.Effects = append(m.Effects, api.Effect{Name: name(), Device: r.Intn(len(m.Devices)), Place: place[i], Safe: r.Intn(2), Causes: some(r, 8, len(m.Causes))})
	}
	return m
}

func TestThereAndBack(t *testing.T) {
	r := rand.New(rand.NewSource(1))
	for range 2000 {
		m := random(r)
		s := Print(m)
		if !Right(m) || s == "" {
			t.Fatalf("%+v is not right", m)
		}
		if len(s) > api.MaxText {
			continue
		}
		if g, err, no := Parse(s); !same(g, m) || err != api.OK || no != 0 {
			t.Fatalf("%s: %+v %v %d", s, g, err, no)
		}
		if g, _, _ := Parse(s); Print(g) != s {
			t.Fatalf("%s is printed otherwise", s)
		}
	}
}

// TestAnyOrder: lines may stand anywhere behind what they say; those of one kind are had in order.
func TestAnyOrder(t *testing.T) {
	r := rand.New(rand.NewSource(2))
	for range 1000 {
		m := random(r)
		s := Print(m)
		if len(s) > api.MaxText-200 {
			continue
		}
		rows := map[string][]string{}
		for _, l := range strings.SplitAfter(s, "\n") {
			kind, _, _ := strings.Cut(l, " ")
			rows[kind] = append(rows[kind], l)
		}
		kinds := []string{"watch", "key", "device", "point", "cause", "effect"}
		need := map[string]string{"point": "device", "cause": "point", "effect": "cause"}
		var b strings.Builder
		left := len(m.Devices) + len(m.Points) + len(m.Causes) + len(m.Effects) + 2
		for left > 0 {
			k := kinds[r.Intn(6)]
			if before := need[k]; len(rows[k]) == 0 || before != "" && len(rows[before]) > 0 && r.Intn(200) > 0 {
				continue
			}
			if l := need[k]; l != "" && len(rows[l]) > 0 {
				continue
			}
			if r.Intn(4) == 0 {
				b.WriteString("  # ?\n")
			}
			b.WriteString(rows[k][0])
			rows[k] = rows[k][1:]
			left--
		}
		if g, err, no := Parse(b.String()); !same(g, m) || err != api.OK || no != 0 {
			t.Fatalf("%s: %+v %v %d", b.String(), g, err, no)
		}
	}
	mixed := "device d 0 1\npoint p d 0 0 0 0\ncause c 1 a 0 p\neffect f d 0 0 c\ndevice e 1 1\nkey 0123456789abcdef\npoint q e 0 0 0 0\ncause c2 1 a 0 q p\neffect g e 0 0 c2 c\nwatch 0 1 0 1"
	m, err, no := Parse(mixed)
	if err != api.OK || no != 0 || len(m.Devices) != 2 || m.Points[1].Device != 1 || !reflect.DeepEqual(m.Causes[1].Points, []int{1, 0}) || !reflect.DeepEqual(m.Effects[1].Causes, []int{1, 0}) {
		t.Error(m, err, no)
	}
}

const start = "watch 2 5 20 10\nkey 0123456789abcdef\ndevice d 0 17\npoint p d 3 1 5 0\ncause c 2 f1a 100 p\n"

// TestWrongLines: each line, behind right ones, is what is wrong.
func TestWrongLines(t *testing.T) {
	ahead := "watch 2 5 20 10\nkey 0123456789abcdef\ndevice d 0 17\npoint p d 3 1 5 0\npoint q d 4 1 5 0\ncause c 1 f1a 100 p\neffect f d 0 1 c\n"
	for line, want := range map[string]api.Errno{
		"wat":                              api.ErrLine,
		"0":                                api.ErrLine,
		"device":                           api.ErrLine,
		"device x 1":                       api.ErrLine,
		"device x 1 2 3":                   api.ErrLine,
		"device d 1":                       api.ErrLine,
		"point x d 5 1 5":                  api.ErrLine,
		"point x d 5 1 5 0 0":              api.ErrLine,
		"cause x 1 a 0":                    api.ErrLine,
		"cause x 1 a 0 p q p q p":          api.ErrLine,
		"effect x d 1 1":                   api.ErrLine,
		"effect x d 1 1 c c c c c c c c c": api.ErrLine,
		"cause c 1 a 0":                    api.ErrLine,
		"cause c 1 a 0 p q p q p":          api.ErrLine,
		"effect f d 1 1":                   api.ErrLine,
		"effect f d 1 1 c c c c c c c c c": api.ErrLine,
		"watch 2 5 20 10":                  api.ErrLine,
		"key 0123456789abcdef":             api.ErrLine,
		"key":                              api.ErrLine,
		"device x 01 2":                    api.ErrLine,
		"device x 00 2":                    api.ErrLine,
		"device x a 2":                     api.ErrLine,
		"device x 1 100001":                api.ErrLine,
		"device x 1 9999999999999999":      api.ErrLine,
		"device x 1 1a":                    api.ErrLine,
		"device d 1 1a":                    api.ErrLine,
		"device d 1 1":                     api.ErrName,
		"device p 1 1":                     api.ErrName,
		"device c 1 1":                     api.ErrName,
		"device f 1 1":                     api.ErrName,
		"device f 9 1":                     api.ErrName,
		"device x 4 1":                     api.ErrLine,
		"device x 0 17":                    api.ErrLine,
		"device x 0 0":                     api.ErrLine,
		"device x 0 248":                   api.ErrLine,
		"point x e 5 1 5 0":                api.ErrName,
		"point x p 5 1 5 0":                api.ErrName,
		"point x x 5 1 5 0":                api.ErrName,
		"point x e 05 1 5 0":               api.ErrLine,
		"point x e 5 1 5 x":                api.ErrLine,
		"point d d 5 1 5 x":                api.ErrLine,
		"point d d 5 2 5 0":                api.ErrName,
		"point x d 5 2 5 0":                api.ErrLine,
		"point x d 3 1 5 0":                api.ErrLine,
		"point x d 256 1 5 0":              api.ErrLine,
		"point x d 5 1 1001 0":             api.ErrLine,
		"cause x 1 b 0 p":                  api.ErrLine,
		"cause x 1 f1 0 p":                 api.ErrLine,
		"cause c 1 b 0 z":                  api.ErrLine,
		"cause x 1 a x z":                  api.ErrLine,
		"cause x 1 a 100001 p":             api.ErrLine,
		"cause x 1 a 0 z":                  api.ErrName,
		"cause x 1 a 0 p d":                api.ErrName,
		"cause x 1 a 0 x":                  api.ErrName,
		"cause x 3 a 0 z p":                api.ErrName,
		"cause x 3 a 0 q p":                api.ErrLine,
		"cause x 1 a 0 p p":                api.ErrLine,
		"cause x 0 a 0 p":                  api.ErrLine,
		"effect x p 1 1 c":                 api.ErrName,
		"effect x d 1 1 p":                 api.ErrName,
		"effect x d 1 1 c x":               api.ErrName,
		"effect c d 1 1 c":                 api.ErrName,
		"effect x d 1 x z":                 api.ErrLine,
		"effect x d 1 1 c c":               api.ErrLine,
		"effect x d 0 1 c":                 api.ErrLine,
		"effect x d 1 2 c":                 api.ErrLine,
		"effect x d 256 0 c":               api.ErrLine,
		"point abcdefghijklmnopq":          api.ErrWord,
		"point A":                          api.ErrChar,
		strings.Repeat("a ", 15):           api.ErrTooMany,
	} {
		text := ahead + "\n # x\n" + line + "\nnone\n"
		no := 10
		if want == api.ErrWord || want == api.ErrChar || want == api.ErrTooMany {
			if _, err, at := lex.Lines(text); err != want || at != no {
				t.Fatalf("%q: %v %d", line, err, at)
			}
		}
		if m, err, at := Parse(text); !empty(m) || err != want || at != no {
			t.Errorf("%q: %v %d, not %v", line, err, at, want)
		}
	}
}

// TestWrongAhead: what is wrong in the matrix is told with the line that makes it so, also where watch and key come later.
func TestWrongAhead(t *testing.T) {
	for _, c := range []struct {
		text string
		want api.Errno
		no   int
	}{
		{"", api.ErrLine, 0},
		{"watch 0 1 0 1", api.ErrLine, 0},
		{"key 0123456789abcdef", api.ErrLine, 0},
		{"device d 0 1\npoint p d 0 0 0 0", api.ErrLine, 0},
		{"watch 8 1 0 1\nkey 0123456789abcdef", api.ErrLine, 1},
		{"key 0123456789abcdef\nwatch 0 0 0 1", api.ErrLine, 2},
		{"watch 0 1 0 0\nx", api.ErrLine, 1},
		{"watch 0 1 1001 1", api.ErrLine, 1},
		{"watch 0 1 0", api.ErrLine, 1},
		{"watch 0 1 0 1 1", api.ErrLine, 1},
		{"watch 0 1 0 x", api.ErrLine, 1},
		{"key 0123456789abcde", api.ErrLine, 1},
		{"key 0123456789abcdeg", api.ErrLine, 1},
		{"key 0123456789abcdef 1", api.ErrLine, 1},
		{"device d 4 1\nwatch 0 1 0 1\nkey 0123456789abcdef", api.ErrLine, 1},
		{"device d 0 1\ndevice e 0 1\nwatch 0 1 0 1", api.ErrLine, 2},
		{"device d 0 1\ndevice e 0 2\ndevice g 0 3\ndevice h 0 4\ndevice i 0 5\n", api.ErrLine, 5},
		{"cause c 1 a 0 p\npoint p d 0 0 0 0", api.ErrName, 1},
		{"watch 0 1 0 1\nkey 0123456789abcdef\nkey 0123456789abcdef", api.ErrLine, 3},
		{strings.Repeat("#", 4097), api.ErrTooMany, 0},
		{"none\nA", api.ErrChar, 2},
	} {
		if m, err, no := Parse(c.text); !empty(m) || err != c.want || no != c.no {
			t.Errorf("%q: %v %d, not %v %d", c.text, err, no, c.want, c.no)
		}
	}
	points := start
	for i := range 15 {
		points += "point x" + strconv.Itoa(i) + " d " + strconv.Itoa(100+i) + " 0 0 0\n"
	}
	points = strings.Replace(points, "cause c 2", "cause c 1", 1)
	if _, err, no := Parse(points); err != api.OK || no != 0 {
		t.Error(err, no)
	}
	if _, err, no := Parse(points + "point y d 200 0 0 0\n"); err != api.ErrLine || no != 21 {
		t.Error(err, no)
	}
	if _, err, no := Parse(start); err != api.ErrLine || no != 5 {
		t.Error(err, no)
	}
}

// TestParsedIsRight: whatever is parsed of turned texts is right, and its text is parsed to the same.
func TestParsedIsRight(t *testing.T) {
	r := rand.New(rand.NewSource(3))
	fine := 0
	for range 20000 {
		words := strings.SplitAfter(sampleText, " ")
		i, j := r.Intn(len(words)), r.Intn(len(words))
		switch r.Intn(3) {
		case 0:
			words[i] = words[j]
		case 1:
			words[i] = strconv.Itoa(r.Intn(300)) + " "
		case 2:
			words[i], words[j] = words[j], words[i]
		}
		m, err, no := Parse(strings.Join(words, ""))
		if err != api.OK {
			if !empty(m) {
				t.Fatal(m, err, no)
			}
			continue
		}
		fine++
		if g, err, _ := Parse(Print(m)); !Right(m) || no != 0 || err != api.OK || !same(g, m) {
			t.Fatalf("%v: %+v", words, m)
		}
	}
	if fine < 500 {
		t.Error(fine)
	}
}

func TestMemory(t *testing.T) {
	m := sample()
	room := []int{1, 0, 7}
	m.Causes[0].Points = room[:2]
	if !Right(m) || Print(m) != sampleText || room[2] != 7 || !same(m, sample()) {
		t.Error(m, room)
	}
	g, _, _ := Parse(sampleText)
	g.Causes[0].Points[0] = 9
	g.Effects[0].Causes[0] = 9
	if h, _, _ := Parse(sampleText); !same(h, sample()) {
		t.Error(h)
	}
}
