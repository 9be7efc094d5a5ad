package gate

import (
	"math"
	"math/rand"
	"slices"
	"testing"

	"watchkeeper/api"
	"watchkeeper/log"
)

// crowded is one line on which effects keep what is read from going, when nothing is answered.
const crowded = `watch 0 3 2 5
device d 0 17
point p d 3 1 0 0
point q d 4 1 0 0
cause c 1 a 20 p
cause c1 1 a 20 q
effect e0 d 9 1 c
effect e1 d 10 1 c
effect e2 d 11 0 c1
`

// crowdedAge is check.Age of it: Back, Cycle, and 9 times 4.
const crowdedAge = 2 + 5 + 9*4

func noAnswers(t *testing.T, g *Gate, line int) {
	t.Helper()
	for range 500 {
		steps(t, g, goWrong(line, api.FaultAsk, 0))
	}
}

// TestAge: what is known of a point is not known any more when it is older than it may be, though its poll still waits.
func TestAge(t *testing.T) {
	g := made(t, crowded, 64)
	steps(t, g, setPoint(0, 1), tick(1))
	noAnswers(t, g, 0)
	out := steps(t, g, tick(1+crowdedAge))
	noted(t, out.Notes, note(1, 0, 2), note(2, 0, 2), note(2, 1, 2))
	if g.Now() != 2+crowdedAge || g.View().Trips[1] {
		t.Error(g.Now(), g.View())
	}
	out = steps(t, g, tick(1))
	noted(t, out.Notes, note(1, 1, 3+crowdedAge), note(2, 2, 3+crowdedAge))
}

// TestSince: behind a restart it is scanned when all was read once, or would have been.
func TestSince(t *testing.T) {
	g := made(t, crowded, 64)
	steps(t, g, setPoint(0, 1), tick(1))
	noAnswers(t, g, 0)
	steps(t, g, tick(10), boot())
	out := steps(t, g, tick(crowdedAge))
	noted(t, out.Notes)
	if v := g.View(); v.Trips[0] || v.Trips[1] {
		t.Error(v)
	}
	out = steps(t, g, tick(1))
	noted(t, out.Notes, note(1, 1, 12+crowdedAge), note(2, 2, 12+crowdedAge))
	if v := g.View(); !v.Trips[0] || !v.Trips[1] {
		t.Error(v)
	}
}

// TestKeptJustIfNoted: nothing is written to the disk, but what was noted.
func TestKeptJustIfNoted(t *testing.T) {
	g := made(t, small, 64)
	steps(t, g, tick(5), command(api.CmdBypass, 0, 10, ""), failPower(0, 0), tick(5))
	for _, e := range []api.Ev{command(api.CmdReset, 0, 0, secret), command(api.CmdReset, 0, 0, "x"), command(api.CmdBypass, 0, 5, ""), command(api.CmdBypass, 4, 5, ""), command(api.CmdDrop, 4, 0, ""), command(api.CmdAck, 0, 0, "")} {
		if out := steps(t, g, e); len(out.Notes) != 0 || !g.Up() {
			t.Fatal(out)
		}
	}
	// The bypass lapses at 15: that alone is kept.
	steps(t, g, tick(4))
	if !g.Up() {
		t.Fatal("something was written")
	}
	out := steps(t, g, tick(1))
	noted(t, out.Notes, note(api.NoteLapse, 0, 15))
	isDown(t, g)
}

// TestLeftAlone: a device that did not answer is read no earlier than Back behind that, nor than Cycle behind when it was asked.
func TestLeftAlone(t *testing.T) {
	for back, want := range map[string]int64{"7": 11, "2": 6, "0": 6, "3": 7} {
		g := made(t, "watch 0 3 "+back+" 5\ndevice d 0 17\npoint p d 3 1 0 0\ncause c 1 a 0 p\n", 64)
		steps(t, g, goWrong(0, api.FaultAsk, 0))
		sent(t, steps(t, g, tick(1)).Sent, serial(0, 17, inputs(3, 1)))
		sent(t, steps(t, g, tick(want-2)).Sent)
		sent(t, steps(t, g, tick(1)).Sent, serial(0, 17, inputs(3, 1)))
		// One that answers is read again by its Cycle.
		sent(t, steps(t, g, tick(4)).Sent)
		sent(t, steps(t, g, tick(1)).Sent, serial(0, 17, inputs(3, 1)))
	}
}

// apart is a point on one line, its effect on another one.
const apart = `watch 3 4 0 3
device d 0 17
device s 1 5
point p d 3 1 0 0
cause c 1 a 20 p
effect e s 9 1 c
`

// TestLetGoInFlight: what is let go while it is written, or read back, is not read back, nor done.
func TestLetGoInFlight(t *testing.T) {
	g := made(t, apart, 64)
	steps(t, g, setPoint(0, 1), goWrong(1, api.FaultReply, 0), goWrong(1, api.FaultReply, 0), tick(2), setPoint(0, 0))
	steps(t, g, tick(3), command(api.CmdReset, 0, 0, secret))
	if g.State().Effects[0].Set {
		t.Fatal("not let go")
	}
	out := steps(t, g, tick(10))
	for _, f := range out.Sent {
		if f.Line == 1 && !slices.Equal(f.B, serial(1, 5, writeCoil(9, 1)).B) {
			t.Errorf("%x is sent", f.B)
		}
	}
	if g.Done(0) || g.Coil(0) != 1 {
		t.Error("done")
	}
	g = made(t, apart, 64)
	steps(t, g, setPoint(0, 1), tick(2), goWrong(1, api.FaultReply, 0), tick(1), setPoint(0, 0), tick(2), command(api.CmdReset, 0, 0, secret))
	if g.State().Effects[0].Set || g.Done(0) {
		t.Fatal("not let go")
	}
	steps(t, g, tick(10))
	if g.Done(0) {
		t.Error("what was let go is done")
	}
}

// TestReadBackFails: what could not be read back is written again.
func TestReadBackFails(t *testing.T) {
	g := made(t, apart, 64)
	steps(t, g, setPoint(0, 1), tick(2))
	for range 4 {
		steps(t, g, goWrong(1, api.FaultAsk, 0))
	}
	var got []api.Frame
	for range 30 {
		for _, f := range steps(t, g, tick(1)).Sent {
			if f.Line == 1 {
				got = append(got, f)
			}
		}
	}
	read, write := serial(1, 5, readCoil(9)), serial(1, 5, writeCoil(9, 1))
	sent(t, got, read, read, read, read, write, read)
	if !g.Done(0) {
		t.Error("not done")
	}
}

// TestReadBackOtherwise: what reads otherwise than it is to be is written again; here a late answer to what was asked ahead of it.
func TestReadBackOtherwise(t *testing.T) {
	g := made(t, "watch 0 3 0 1000\ndevice d 0 17\npoint p d 3 1 0 0\ncause c 1 a 0 p\neffect e0 d 9 1 c\neffect e1 d 10 0 c\n", 64)
	steps(t, g, setPoint(0, 1), tick(3), goWrong(0, api.FaultLate, 3))
	sent(t, steps(t, g, tick(1)).Sent, serial(0, 17, readCoil(9)))
	sent(t, steps(t, g, tick(3)).Sent, serial(0, 17, readCoil(10)))
	sent(t, steps(t, g, tick(1)).Sent, serial(0, 17, writeCoil(9, 1)))
	if g.Done(0) || g.Done(1) {
		t.Error("done")
	}
	sent(t, steps(t, g, tick(1)).Sent, serial(0, 17, writeCoil(10, 0)))
	steps(t, g, tick(10))
	if !g.Done(0) || !g.Done(1) || g.Coil(0) != 1 || g.Coil(1) != 0 {
		t.Error("not done")
	}
}

// TestNoState: a disk whose records are none lets it not be up.
func TestNoState(t *testing.T) {
	g := made(t, small, 64)
	l, _, err := log.Open(g.disk)
	if err != api.OK || l.Add([]byte{1}) != api.OK {
		t.Fatal(err)
	}
	steps(t, g, tick(1))
	for range 2 {
		if out := g.Step(boot()); out.Err != api.ErrStore {
			t.Error(out)
		}
		isDown(t, g)
	}
	steps(t, g, tick(3))
	if g.Now() != 4 {
		t.Error(g.Now())
	}
}

// TestTrippedAnewInFlight: what was asked ahead of a reset says nothing of what trips behind it.
func TestTrippedAnewInFlight(t *testing.T) {
	g := made(t, apart, 64)
	steps(t, g, setPoint(0, 1), tick(2), goWrong(1, api.FaultAsk, 0), goWrong(1, api.FaultAsk, 0), setPoint(0, 0))
	out := steps(t, g, tick(3), command(api.CmdReset, 0, 0, secret))
	noted(t, out.Notes, note(api.NoteFree, 0, 5), note(api.NoteClear, 0, 5))
	out = steps(t, g, setPoint(0, 1), tick(3))
	noted(t, out.Notes, note(1, 0, 8), note(2, 0, 8))
	out = steps(t, g, tick(3))
	sent(t, out.Sent[len(out.Sent)-1:], serial(1, 5, readCoil(9)))
	out = steps(t, g, tick(1))
	sent(t, out.Sent, serial(1, 5, writeCoil(9, 1)))
	if g.Done(0) {
		t.Error("done ahead of what is written")
	}
	steps(t, g, tick(1))
	if g.Done(0) {
		t.Error("done ahead of what is read back")
	}
	steps(t, g, tick(1))
	if !g.Done(0) {
		t.Error("not done")
	}
}

// TestAnyEvent: whatever an event has, it comes to an end; with an error nothing has changed.
func TestAnyEvent(t *testing.T) {
	r := rand.New(rand.NewSource(1))
	odd := []int64{math.MinInt64, -1, 0, 1, 2, 3, 4, 5, 7, 64, 255, 256, 1000, 1001, 1 << 40, 1<<40 + 1, math.MaxInt64}
	any := func() int64 { return odd[r.Intn(len(odd))] }
	for range 20 {
		g := of(t, random(r), int(any()))
		for range 400 {
			e := api.Ev{Kind: r.Intn(9) - 1, N: any(), A: int(any()), B: int(any()), Pdu: make([]byte, r.Intn(12))}
			r.Read(e.Pdu)
			if len(e.Pdu) > 0 && r.Intn(2) == 0 {
				e.Pdu[0] = []byte{2, 3, 4, 6, 16, 22, 23}[r.Intn(7)]
			}
			before, now, up, view := g.State(), g.Now(), g.Up(), g.View()
			out := g.Step(e)
			if out.Err == api.OK || e.Kind == api.EvBoot {
				continue
			}
			if len(out.Notes)+len(out.Reply)+len(out.Sent) != 0 || !sameState(g.State(), before) || g.Now() != now || g.Up() != up || !slices.Equal(g.View().Looks, view.Looks) {
				t.Fatalf("%v: %v", e, out)
			}
		}
	}
}
