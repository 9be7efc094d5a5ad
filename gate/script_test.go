package gate

import (
	"math/rand"
	"slices"
	"strconv"
	"testing"

	"watchkeeper/api"
	"watchkeeper/check"
	"watchkeeper/key"
	"watchkeeper/matrix"
	"watchkeeper/mbap"
	"watchkeeper/pdu"
	"watchkeeper/rtu"
	"watchkeeper/sector"
	"watchkeeper/store"
)

// random is a right matrix whose key's sum is that of secret.
func random(r *rand.Rand) api.Matrix {
	m := api.Matrix{Retries: r.Int63n(4), Wait: 2 + r.Int63n(4), Back: r.Int63n(8), Cycle: 1 + r.Int63n(8), Key: key.Sum(secret)}
	for i := range 1 + r.Intn(4) {
		m.Devices = append(m.Devices, api.Device{Name: "d" + strconv.Itoa(i), Line: r.Intn(4), Unit: 1 + i + 60*r.Intn(4)})
	}
	places := r.Perm(256)
	for i := range 1 + r.Intn(16) {
		m.Points = append(m.Points, api.Point{Name: "p" + strconv.Itoa(i), Device: r.Intn(len(m.Devices)), Place: places[i], Trip: r.Intn(2), On: r.Int63n(6), Off: r.Int63n(6)})
	}
	for i := range 1 + r.Intn(8) {
		p := r.Perm(len(m.Points))[:1+r.Intn(min(4, len(m.Points)))]
		m.Causes = append(m.Causes, api.Cause{Name: "c" + strconv.Itoa(i), Votes: 1 + r.Intn(len(p)), Lamp: 1 + r.Intn(6), Limit: r.Int63n(60), Points: p})
	}
	for i := range 1 + r.Intn(8) {
		m.Effects = append(m.Effects, api.Effect{Name: "e" + strconv.Itoa(i), Device: r.Intn(len(m.Devices)), Place: places[i], Safe: r.Intn(2), Causes: r.Perm(len(m.Causes))[:1+r.Intn(len(m.Causes))]})
	}
	return m
}

func of(t *testing.T, m api.Matrix, sectors int) *Gate {
	t.Helper()
	g, err, at := New(matrix.Print(m), sectors)
	if err != api.OK {
		t.Fatal(err, at)
	}
	return g
}

// quiet has no point trip.
func quiet(t *testing.T, g *Gate, m api.Matrix) {
	for i, p := range m.Points {
		steps(t, g, setPoint(i, 1-p.Trip))
	}
}

// trouble has things go wrong on lines, but no more of them one behind the other than are tried again.
type trouble struct {
	m     api.Matrix
	wrong [4]int // how many are to come
	fine  [4]int // how many frames went well since
}

func (w *trouble) sent(l []api.Frame) {
	for _, f := range l {
		if w.wrong[f.Line] > 0 {
			w.wrong[f.Line]--
			w.fine[f.Line] = 0
		} else {
			w.fine[f.Line]++
		}
	}
}

func (w *trouble) make(t *testing.T, r *rand.Rand, g *Gate) {
	for line := range 4 {
		if w.wrong[line] > 0 || w.fine[line] == 0 || w.m.Retries == 0 || r.Intn(4) > 0 {
			continue
		}
		w.wrong[line] = 1 + r.Intn(int(w.m.Retries))
		for range w.wrong[line] {
			kind := 1 + r.Intn(3)
			if line >= 2 {
				kind = 1 + r.Intn(4)
			}
			steps(t, g, goWrong(line, kind, r.Int63n(30)))
		}
	}
}

// TestItTrips: within its bound a cause whose points trip has all its effects be written, and read back, whatever other points do, and whatever goes wrong, if that is no more than is tried again.
func TestItTrips(t *testing.T) {
	for seed := range 300 {
		r := rand.New(rand.NewSource(int64(seed)))
		m := random(r)
		g := of(t, m, 256)
		w := &trouble{m: m}
		quiet(t, g, m)
		pass := func() {
			w.make(t, r, g)
			w.sent(steps(t, g, tick(1)).Sent)
		}
		for range r.Intn(100) {
			pass()
		}
		cause := r.Intn(len(m.Causes))
		own := m.Causes[cause].Points
		held := own
		if r.Intn(2) == 0 {
			held = own[:m.Causes[cause].Votes]
		}
		for _, i := range held {
			steps(t, g, setPoint(i, m.Points[i].Trip))
		}
		bound := check.Bound(m, cause)
		for range bound {
			if i := r.Intn(len(m.Points)); !slices.Contains(held, i) && r.Intn(3) == 0 {
				steps(t, g, setPoint(i, r.Intn(2)))
			}
			pass()
		}
		for _, e := range check.Effects(m, cause) {
			if !g.Done(e) || g.Coil(e) != m.Effects[e].Safe || !g.State().Effects[e].Set || !g.State().Causes[cause].Set {
				t.Fatalf("seed %d: the effect %d of the cause %d is not done in %d ticks", seed, e, cause, bound)
			}
		}
	}
}

// TestDeadDevice: causes of a device that does not answer at all trip within their bound; what goes wrong elsewhere does not hinder it.
func TestDeadDevice(t *testing.T) {
	for seed := range 100 {
		r := rand.New(rand.NewSource(int64(seed)))
		m := random(r)
		g := of(t, m, 256)
		quiet(t, g, m)
		dead := r.Intn(4)
		for range r.Intn(50) {
			steps(t, g, tick(1))
		}
		for range 1000 {
			g.Step(goWrong(dead, api.FaultAsk, 0))
		}
		steps(t, g, tick(1000))
		for c, x := range m.Causes {
			bad := 0
			for _, p := range x.Points {
				if m.Devices[m.Points[p].Device].Line == dead {
					bad++
				}
			}
			if g.State().Causes[c].Set != (bad >= x.Votes) {
				t.Fatalf("seed %d: the cause %d, %d of whose points are not known, %d votes", seed, c, bad, x.Votes)
			}
			if bad < x.Votes {
				continue
			}
			for _, e := range check.Effects(m, c) {
				if line := m.Devices[m.Effects[e].Device].Line; line != dead && (!g.Done(e) || g.Coil(e) != m.Effects[e].Safe) {
					t.Fatalf("seed %d: the effect %d on the line %d is not done", seed, e, line)
				}
			}
		}
	}
}

// asked is what a frame asks, of which unit.
func asked(t *testing.T, f api.Frame) (api.Req, int) {
	t.Helper()
	var unit byte
	var b []byte
	if f.Line >= 2 {
		a, n, err := mbap.First(f.B)
		if err != api.OK || n != len(f.B) {
			t.Fatalf("%x is no frame", f.B)
		}
		unit, b = a.Unit, a.Pdu
	} else {
		var err api.Errno
		if unit, b, err = rtu.Get(f.B); err != api.OK {
			t.Fatalf("%x is no frame", f.B)
		}
	}
	q, ex := pdu.Get(b)
	if ex != 0 {
		t.Fatalf("%x asks nothing", f.B)
	}
	return q, int(unit)
}

// watcher holds a gate against what it must keep, whatever happens.
type watcher struct {
	t       *testing.T
	m       api.Matrix
	g       *Gate
	room    bool       // the disk has room
	stands  api.State  // what stood when it was up last
	maybe   *api.State // what may stand instead, behind a failure
	coils   []bool     // was written
	written int
	freed   int
}

// safe: nothing but safe values is written, of effects that were kept ahead of it.
func (w *watcher) safe(l []api.Frame) {
	for _, f := range l {
		q, unit := asked(w.t, f)
		if is, _ := pdu.Writes(q.Fc); !is {
			continue
		}
		found := false
		for i, e := range w.m.Effects {
			d := w.m.Devices[e.Device]
			if d.Line != f.Line || d.Unit != unit || e.Place != q.Addr {
				continue
			}
			found = true
			w.written++
			if q.Fc != api.WriteCoil || int(q.Vals[0]) != e.Safe {
				w.t.Fatalf("%v is written of the effect %d", q, i)
			}
			if w.room && w.g.Up() && !kept(w.t, w.g.disk, w.m).Effects[i].Set && w.g.State().Effects[i].Set {
				w.t.Fatalf("the effect %d is written, and was not kept", i)
			}
			if w.g.Coil(i) == e.Safe {
				w.coils[i] = true
			}
		}
		if !found {
			w.t.Fatalf("%v is written, which no effect says", q)
		}
	}
	for i, was := range w.coils {
		if was && w.g.Coil(i) != w.m.Effects[i].Safe {
			w.t.Fatalf("the coil of the effect %d is not safe any more", i)
		}
	}
}

// kept is what stands on a disk.
func kept(t *testing.T, d *sector.Disk, m api.Matrix) api.State {
	t.Helper()
	_, s, _, err := store.Open(d, len(m.Causes), len(m.Effects))
	if err != api.OK {
		t.Fatal(err)
	}
	return s
}

// stood: each latch of an effect that was set still is, or was let go rightly.
func (w *watcher) stood(free bool, healthy []bool) {
	after := w.g.State()
	for i, x := range w.stands.Effects {
		y := after.Effects[i]
		if !x.Set || x == y {
			continue
		}
		if y.Set {
			w.t.Fatalf("the effect %d was %v, and is %v", i, x, y)
		}
		for _, c := range w.m.Effects[i].Causes {
			free = free && healthy[c]
		}
		if !free {
			w.t.Fatalf("the effect %d was let go", i)
		}
		w.freed++
	}
}

func (w *watcher) step(e api.Ev, free bool) {
	w.t.Helper()
	wasUp := w.g.Up()
	healthy := w.healthy()
	out := w.g.Step(e)
	w.safe(out.Sent)
	if !w.g.Up() {
		if wasUp {
			// A reset in flight when power fails may stand, or not.
			w.maybe = nil
			if free && e.Kind == api.EvServe {
				s := w.afterReset(healthy)
				w.maybe = &s
			}
		}
		return
	}
	if e.Kind == api.EvBoot && !wasUp {
		if w.maybe != nil && slices.Equal(w.g.State().Effects, w.maybe.Effects) {
			w.stands = *w.maybe
		}
		w.stood(false, nil)
	} else {
		w.stood(free, healthy)
	}
	w.stands = w.g.State()
}

func (w *watcher) healthy() []bool {
	v := w.g.View()
	l := make([]bool, len(w.m.Causes))
	for i := range v.Trips {
		l[i] = !v.Trips[i] || v.Bypassed[i]
	}
	return l
}

// afterReset is what stands when all effects are let go that may.
func (w *watcher) afterReset(healthy []bool) api.State {
	s := api.State{Effects: slices.Clone(w.stands.Effects), Causes: slices.Clone(w.stands.Causes), Ends: w.stands.Ends}
	for i, e := range w.m.Effects {
		if !slices.ContainsFunc(e.Causes, func(c int) bool { return !healthy[c] }) {
			s.Effects[i] = api.Latch{}
		}
	}
	return s
}

// event is some event; true: it may let something go.
func event(r *rand.Rand, m api.Matrix) (api.Ev, bool) {
	switch r.Intn(14) {
	case 0, 1:
		return setPoint(r.Intn(len(m.Points)), r.Intn(2)), false
	case 2:
		return goWrong(r.Intn(4), 1+r.Intn(4), r.Int63n(20)), false
	case 3:
		if r.Intn(3) > 0 {
			return tick(1), false
		}
		return failPower(r.Intn(6), r.Intn(65)), false
	case 4:
		return command(1+r.Intn(5), 0, 0, ""), false
	case 5:
		return command(api.CmdBypass, r.Intn(9), r.Intn(60), ""), false
	case 6:
		return command(api.CmdDrop, r.Intn(9), 0, ""), false
	case 7:
		return command(api.CmdReset, 0, 0, secret), true
	case 8:
		return command(api.CmdReset, 0, 0, "no "+secret), false
	case 9:
		if r.Intn(4) > 0 {
			return tick(1), false
		}
		return boot(), false
	}
	return tick(1), false
}

// TestWhateverHappens: nothing but safe values is written, of what was kept; a coil that was written stays safe; what is latched stands, restarts included, till it is let go rightly.
func TestWhateverHappens(t *testing.T) {
	written, freed, restarts := 0, 0, 0
	for seed := range 150 {
		r := rand.New(rand.NewSource(int64(seed)))
		m := random(r)
		w := &watcher{t: t, m: m, g: of(t, m, 60), room: true, coils: make([]bool, len(m.Effects))}
		w.stands = w.g.State()
		if r.Intn(2) == 0 {
			quiet(t, w.g, m)
		}
		for range 400 {
			if !w.g.Up() && r.Intn(3) == 0 {
				w.step(boot(), false)
				restarts++
			}
			e, free := event(r, m)
			w.step(e, free)
			if w.g.Up() && r.Intn(10) == 0 {
				shown(t, w.g)
			}
		}
		written += w.written
		freed += w.freed
	}
	if written < 1000 || freed < 50 || restarts < 100 {
		t.Error(written, freed, restarts)
	}
}

// TestAlike: two gates that the same happens to answer the same.
func TestAlike(t *testing.T) {
	for seed := range 20 {
		r := rand.New(rand.NewSource(int64(seed)))
		m := random(r)
		a, b := of(t, m, 40), of(t, m, 40)
		for range 300 {
			e, _ := event(r, m)
			x, y := a.Step(e), b.Step(e)
			if x.Err != y.Err || !slices.Equal(x.Reply, y.Reply) || !slices.Equal(x.Notes, y.Notes) || !sameFrames(x.Sent, y.Sent) || !sameState(a.State(), b.State()) || a.Up() != b.Up() {
				t.Fatalf("%v: %v and %v", e, x, y)
			}
		}
	}
}

// TestTickByTick: ticks at once are the same as one by one.
func TestTickByTick(t *testing.T) {
	for seed := range 30 {
		r := rand.New(rand.NewSource(int64(seed)))
		m := random(r)
		a, b := of(t, m, 40), of(t, m, 40)
		for range 60 {
			e, _ := event(r, m)
			if e.Kind != api.EvTick {
				a.Step(e)
				b.Step(e)
				continue
			}
			n := 1 + r.Int63n(40)
			x := a.Step(tick(n))
			var y api.Out
			for range n {
				one := b.Step(tick(1))
				y.Notes = append(y.Notes, one.Notes...)
				y.Sent = append(y.Sent, one.Sent...)
			}
			if x.Err != api.OK || !slices.Equal(x.Notes, y.Notes) || !sameFrames(x.Sent, y.Sent) || !sameState(a.State(), b.State()) || a.Now() != b.Now() || a.Up() != b.Up() {
				t.Fatalf("seed %d: %v and %v", seed, x, y)
			}
		}
	}
}

// TestCutAnywhere: power fails in any write of a script, with any number of bytes: what stands behind a restart is what stood ahead of what was kept then, or behind it; a bypass ends at its time.
func TestCutAnywhere(t *testing.T) {
	script := []api.Ev{
		setPoint(0, 1), tick(5), command(api.CmdBypass, 2, 30, ""), setPoint(0, 0), tick(4), command(api.CmdReset, 0, 0, secret), tick(3),
		setPoint(2, 1), tick(8), command(api.CmdDrop, 2, 0, ""), setPoint(1, 1), tick(9), command(api.CmdBypass, 0, 5, ""), tick(20),
	}
	for _, sectors := range []int{12, 64} {
		for after := range 24 {
			for n := 0; n <= 64; n++ {
				cutScript(t, script, sectors, after, n)
			}
		}
	}
}

func cutScript(t *testing.T, script []api.Ev, sectors, after, n int) {
	t.Helper()
	g, twin := made(t, two, sectors), made(t, two, sectors)
	for _, x := range []*Gate{g, twin} {
		for i := range 3 {
			steps(t, x, setPoint(i, 0))
		}
		steps(t, x, setPoint(2, 1), tick(3), setPoint(2, 0))
	}
	steps(t, g, failPower(after, n))
	for _, e := range script {
		l := []api.Ev{e}
		if e.Kind == api.EvTick {
			l = slices.Repeat([]api.Ev{tick(1)}, int(e.N))
		}
		for _, e := range l {
			before := g.State()
			g.Step(e)
			twin.Step(e)
			if g.Up() {
				continue
			}
			steps(t, g, boot())
			if s := g.State(); !sameState(s, before) && !sameState(s, twin.State()) {
				t.Fatalf("%d %d %d: %v, which is neither %v nor %v", sectors, after, n, s, before, twin.State())
			}
			for i, end := range g.State().Ends {
				if end > 0 && (end != before.Ends[i] && end != twin.State().Ends[i]) {
					t.Fatalf("%d ends at %d", i, end)
				}
			}
			steps(t, g, tick(100))
			for i := range 3 {
				if g.State().Ends[i] != 0 || g.State().Effects[i].Set && !g.Done(i) {
					t.Fatalf("%d: bypassed for ever, or not done", i)
				}
			}
			return
		}
	}
}
