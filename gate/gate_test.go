package gate

import (
	"bytes"
	"math"
	"slices"
	"testing"

	"watchkeeper/api"
	"watchkeeper/key"
	"watchkeeper/mbap"
	"watchkeeper/pdu"
	"watchkeeper/reply"
	"watchkeeper/rtu"
	"watchkeeper/slave"
)

const secret = "open sesame"

func keyLine() string { return "key " + key.Sum(secret) + "\n" }

// small is one device, point, cause and effect.
const small = `watch 1 3 2 5
device d 0 17
point p d 3 1 0 0
cause c 1 m 20 p
effect e d 9 1 c
`

// two are two devices, one on a stream, with causes of several points.
const two = `watch 2 4 3 6
device d 1 17
device s 2 5
point p0 d 3 1 0 0
point p1 d 4 1 2 0
point q0 s 0 0 0 0
cause c0 1 f1a 50 p0
cause c1 2 f1a 60 p0 p1 q0
cause c2 1 f2m 70 q0
effect e0 d 9 1 c0 c1
effect e1 s 8 0 c1 c2
effect e2 s 7 1 c2
`

func made(t *testing.T, text string, sectors int) *Gate {
	t.Helper()
	g, err, at := New(text+keyLine(), sectors)
	if err != api.OK || at != 0 {
		t.Fatal(err, at)
	}
	return g
}

func tick(n int64) api.Ev { return api.Ev{Kind: api.EvTick, N: n} }

func setPoint(i, v int) api.Ev { return api.Ev{Kind: api.EvSet, A: i, B: v} }

func goWrong(line, kind int, n int64) api.Ev {
	return api.Ev{Kind: api.EvFault, A: line, B: kind, N: n}
}

func failPower(after, n int) api.Ev { return api.Ev{Kind: api.EvCut, A: after, B: n} }

func boot() api.Ev { return api.Ev{Kind: api.EvBoot} }

func serve(q api.Req) api.Ev { return api.Ev{Kind: api.EvServe, Pdu: pdu.Put(q)} }

// command writes all of a command at once.
func command(code, cause, ticks int, secret string) api.Ev {
	l := append([]uint16{uint16(code), uint16(cause), uint16(ticks)}, make([]uint16, 16)...)
	copy(l[3:], key.Words(secret))
	return serve(api.Req{Fc: api.WriteRegs, Qty: len(l), Vals: l})
}

// steps has events happen that must be without errors: what came of the last one.
func steps(t *testing.T, g *Gate, l ...api.Ev) api.Out {
	t.Helper()
	var out api.Out
	for _, e := range l {
		if out = g.Step(e); out.Err != api.OK {
			t.Fatalf("%v: %v", e, out.Err)
		}
	}
	return out
}

func note(kind, who int, at int64) api.Note { return api.Note{Kind: kind, Who: who, At: at} }

func noted(t *testing.T, got []api.Note, want ...api.Note) {
	t.Helper()
	if !slices.Equal(got, want) {
		t.Fatalf("%v, not %v", got, want)
	}
}

func serial(line, unit int, q api.Req) api.Frame {
	return api.Frame{Line: line, B: rtu.Put(byte(unit), pdu.Put(q))}
}

func numbered(line, id, unit int, q api.Req) api.Frame {
	return api.Frame{Line: line, B: mbap.Put(api.Adu{Id: uint16(id), Unit: byte(unit), Pdu: pdu.Put(q)})}
}

func inputs(from, many int) api.Req { return api.Req{Fc: api.ReadInputs, Addr: from, Qty: many} }

func writeCoil(at int, v uint16) api.Req {
	return api.Req{Fc: api.WriteCoil, Addr: at, Vals: []uint16{v}}
}

func readCoil(at int) api.Req { return api.Req{Fc: api.ReadCoils, Addr: at, Qty: 1} }

func sameFrames(a, b []api.Frame) bool {
	return slices.EqualFunc(a, b, func(x, y api.Frame) bool { return x.Line == y.Line && bytes.Equal(x.B, y.B) })
}

func sent(t *testing.T, got []api.Frame, want ...api.Frame) {
	t.Helper()
	if !sameFrames(got, want) {
		t.Fatalf("%x, not %x", got, want)
	}
}

func sameState(a, b api.State) bool {
	return slices.Equal(a.Causes, b.Causes) && slices.Equal(a.Effects, b.Effects) && slices.Equal(a.Ends, b.Ends)
}

func isZero(v api.View) bool {
	return len(v.Looks)+len(v.Causes)+len(v.Effects)+len(v.Bypassed)+len(v.Trips)+len(v.Notes)+v.Horn == 0
}

func isDown(t *testing.T, g *Gate) {
	t.Helper()
	if g.Up() || !isZero(g.View()) || !sameState(g.State(), api.State{}) || g.Done(0) {
		t.Fatal("it is up, or shows something")
	}
	if out := g.Step(serve(inputs(0, 1))); out.Err != api.ErrDown || len(out.Reply)+len(out.Notes)+len(out.Sent) != 0 {
		t.Fatal(out)
	}
}

func TestNew(t *testing.T) {
	for _, c := range []struct {
		text string
		want api.Errno
		at   int
	}{
		{"", api.ErrLine, 0}, {"none", api.ErrLine, 1}, {small, api.ErrLine, 0}, {keyLine() + "\n" + small + "device d 0 2", api.ErrName, 8}, {"A", api.ErrChar, 1},
	} {
		if g, err, at := New(c.text, 9); g != nil || err != c.want || at != c.at {
			t.Errorf("%q: %v %v %d", c.text, g, err, at)
		}
	}
	for _, sectors := range []int{math.MinInt, 0, 1, 5, 300, math.MaxInt} {
		g := made(t, small, sectors)
		if !g.Up() || g.Now() != 0 || g.Done(0) || g.Coil(0) != 0 {
			t.Error(sectors)
		}
		if s := g.State(); !sameState(s, api.State{Causes: make([]api.Latch, 1), Effects: make([]api.Latch, 1), Ends: []int64{0}}) {
			t.Error(s)
		}
		v := g.View()
		if !slices.Equal(v.Looks, []int{0}) || v.Horn != 0 || !slices.Equal(v.Causes, []bool{false}) || !slices.Equal(v.Effects, []bool{false}) || !slices.Equal(v.Bypassed, []bool{false}) || !slices.Equal(v.Trips, []bool{false}) || len(v.Notes) != 0 {
			t.Error(v)
		}
	}
	empty := made(t, "watch 0 1 0 1\n", 2)
	steps(t, empty, tick(1000), boot(), tick(1))
	if empty.Now() != 1001 || !empty.Up() || len(empty.View().Looks) != 0 {
		t.Error(empty.Now())
	}
}

// TestOneTrip: what goes on the line, tick by tick, and what comes of it.
func TestOneTrip(t *testing.T) {
	g := made(t, small, 64)
	ask := serial(0, 17, inputs(3, 1))
	sent(t, steps(t, g, tick(1)).Sent, ask)
	sent(t, steps(t, g, tick(4)).Sent)
	sent(t, steps(t, g, tick(1)).Sent, ask)
	steps(t, g, setPoint(0, 1))
	sent(t, steps(t, g, tick(4)).Sent)
	out := steps(t, g, tick(1))
	sent(t, out.Sent, ask)
	noted(t, out.Notes)
	out = steps(t, g, tick(1))
	noted(t, out.Notes, note(api.NoteTrip, 0, 12), note(api.NoteEffect, 0, 12))
	sent(t, out.Sent, serial(0, 17, writeCoil(9, 1)))
	if g.Coil(0) != 1 || g.Done(0) {
		t.Error(g.Coil(0), g.Done(0))
	}
	sent(t, steps(t, g, tick(1)).Sent, serial(0, 17, readCoil(9)))
	if g.Done(0) {
		t.Error("done ahead of its answer")
	}
	sent(t, steps(t, g, tick(1)).Sent)
	if !g.Done(0) || g.Now() != 14 || g.Done(-1) || g.Done(1) || g.Coil(-1) != 0 || g.Coil(1) != 0 {
		t.Error(g.Done(0), g.Now())
	}
	want := api.State{Causes: []api.Latch{{Set: true, At: 12}}, Effects: []api.Latch{{Set: true, At: 12}}, Ends: []int64{0}}
	if s := g.State(); !sameState(s, want) {
		t.Error(s)
	}
	v := g.View()
	if !slices.Equal(v.Looks, []int{api.LookFast}) || v.Horn != api.HornOn || !v.Causes[0] || !v.Effects[0] || !v.Trips[0] || v.Bypassed[0] {
		t.Error(v)
	}
	noted(t, v.Notes, note(api.NoteTrip, 0, 12), note(api.NoteEffect, 0, 12))
	steps(t, g, setPoint(0, 0), tick(10))
	if v := g.View(); v.Trips[0] || !v.Causes[0] || !v.Effects[0] || !g.Done(0) || g.Coil(0) != 1 {
		t.Error(v)
	}
	out = steps(t, g, tick(20))
	for _, f := range out.Sent {
		if !bytes.Equal(f.B, ask.B) {
			t.Errorf("%x is sent behind all", f.B)
		}
	}
}

// TestTwoLines: polls of two devices; the stream's frames have numbers.
func TestTwoLines(t *testing.T) {
	g := made(t, two, 64)
	steps(t, g, setPoint(2, 1))
	out := steps(t, g, tick(7))
	sent(t, out.Sent, serial(1, 17, inputs(3, 2)), numbered(2, 1, 5, inputs(0, 1)), serial(1, 17, inputs(3, 2)), numbered(2, 2, 5, inputs(0, 1)))
	noted(t, out.Notes)
	steps(t, g, setPoint(2, 0))
	out = steps(t, g, tick(7))
	noted(t, out.Notes, note(1, 2, 14), note(2, 1, 14), note(2, 2, 14))
	sent(t, out.Sent, serial(1, 17, inputs(3, 2)), numbered(2, 3, 5, inputs(0, 1)), numbered(2, 4, 5, writeCoil(8, 0)))
	out = steps(t, g, tick(1))
	sent(t, out.Sent, numbered(2, 5, 5, writeCoil(7, 1)))
	out = steps(t, g, tick(1))
	sent(t, out.Sent, numbered(2, 6, 5, readCoil(8)))
	out = steps(t, g, tick(1))
	sent(t, out.Sent, numbered(2, 7, 5, readCoil(7)))
	if !g.Done(1) || g.Done(2) {
		t.Error(g.Done(1), g.Done(2))
	}
	steps(t, g, tick(1))
	if !g.Done(2) || g.Coil(2) != 1 || g.Coil(1) != 0 || g.Done(0) {
		t.Error(g.Done(2))
	}
	v := g.View()
	if !slices.Equal(v.Looks, []int{0, 0, api.LookFirst}) || !slices.Equal(v.Causes, []bool{false, false, true}) || !slices.Equal(v.Effects, []bool{false, true, true}) || !slices.Equal(v.Trips, []bool{false, false, true}) {
		t.Error(v)
	}
	if s := g.State(); !s.Causes[2].First || s.Causes[2].At != 14 {
		t.Error(s)
	}
}

// TestNotKnown: a device that does not answer has its causes trip, when it was asked often enough; so has one that stops to.
func TestNotKnown(t *testing.T) {
	g := made(t, small, 64)
	for range 2 {
		steps(t, g, goWrong(0, api.FaultAsk, 0))
	}
	out := steps(t, g, tick(6))
	ask := serial(0, 17, inputs(3, 1))
	sent(t, out.Sent, ask, ask)
	noted(t, out.Notes)
	// It was done with ErrLate at 7: asked again at 9, known at 10.
	out = steps(t, g, tick(1))
	noted(t, out.Notes)
	out = steps(t, g, tick(1))
	noted(t, out.Notes, note(1, 0, 8), note(2, 0, 8))
	sent(t, out.Sent, serial(0, 17, writeCoil(9, 1)))
	out = steps(t, g, tick(3))
	if v := g.View(); v.Trips[0] || !g.Done(0) {
		t.Error(v)
	}
	if s := out.Sent; !slices.ContainsFunc(s, func(f api.Frame) bool { return bytes.Equal(f.B, ask.B) }) {
		t.Errorf("%x", s)
	}
	g = made(t, two, 64)
	for range 300 {
		steps(t, g, goWrong(2, api.FaultSpoil, 0))
	}
	noted(t, steps(t, g, tick(12)).Notes)
	noted(t, steps(t, g, tick(1)).Notes)
	if g.State().Effects[1].Set {
		t.Error("it trips too soon")
	}
	noted(t, steps(t, g, tick(1)).Notes, note(1, 2, 14), note(2, 1, 14), note(2, 2, 14))
	steps(t, g, tick(300))
	if g.Done(1) || g.Done(2) {
		t.Error("what was not read back is done")
	}
	steps(t, g, tick(900))
	if !g.Done(1) || !g.Done(2) {
		t.Error("it is not tried again")
	}
}

// TestBack: a device that does not answer is left alone for a while; what it is to write is tried all the same.
func TestBack(t *testing.T) {
	g := made(t, small, 64)
	steps(t, g, tick(2))
	for range 4 {
		steps(t, g, goWrong(0, api.FaultReply, 0))
	}
	// Asked at 6, again at 9, done at 12; asked at 14 (now and Back), not at 11 (Cycle), but behind what is urgent.
	out := steps(t, g, tick(9))
	sent(t, out.Sent, serial(0, 17, inputs(3, 1)), serial(0, 17, inputs(3, 1)))
	out = steps(t, g, tick(1))
	sent(t, out.Sent)
	out = steps(t, g, tick(1))
	noted(t, out.Notes, note(1, 0, 13), note(2, 0, 13))
	sent(t, out.Sent, serial(0, 17, writeCoil(9, 1)))
	out = steps(t, g, tick(6))
	sent(t, out.Sent, serial(0, 17, writeCoil(9, 1)), serial(0, 17, inputs(3, 1)))
	if g.Coil(0) != 1 {
		t.Error("what is written is done, however its answer goes")
	}
	noted(t, out.Notes)
}

func TestErrors(t *testing.T) {
	g := made(t, two, 64)
	before := g.State()
	for _, c := range []struct {
		e    api.Ev
		want api.Errno
	}{
		{api.Ev{}, api.ErrArg}, {api.Ev{Kind: -1}, api.ErrArg}, {api.Ev{Kind: 7, N: 1}, api.ErrArg}, {api.Ev{Kind: math.MaxInt}, api.ErrArg},
		{tick(0), api.ErrArg}, {tick(-1), api.ErrArg}, {tick(1001), api.ErrArg}, {tick(math.MaxInt64), api.ErrArg},
		{setPoint(-1, 1), api.ErrNone}, {setPoint(3, 1), api.ErrNone}, {setPoint(math.MaxInt, 1), api.ErrNone},
		{goWrong(-1, 1, 0), api.ErrArg}, {goWrong(4, 1, 0), api.ErrArg}, {goWrong(0, 0, 0), api.ErrArg}, {goWrong(0, 5, 0), api.ErrArg}, {goWrong(0, 4, -1), api.ErrArg}, {goWrong(0, 4, 1<<40+1), api.ErrArg},
		{failPower(-1, 0), api.ErrArg}, {failPower(math.MinInt, 0), api.ErrArg},
	} {
		out := g.Step(c.e)
		if out.Err != c.want || len(out.Notes)+len(out.Reply)+len(out.Sent) != 0 {
			t.Errorf("%v: %v", c.e, out)
		}
		if g.Now() != 0 || !g.Up() || !sameState(g.State(), before) {
			t.Fatalf("%v changed something", c.e)
		}
	}
	for range 1000 {
		steps(t, g, goWrong(3, 1, 0))
	}
	if out := g.Step(goWrong(3, 1, 0)); out.Err != api.ErrArg {
		t.Error(out)
	}
}

// answered is what an operator reads.
func answered(t *testing.T, g *Gate, q api.Req) []uint16 {
	t.Helper()
	out := steps(t, g, serve(q))
	p, err := reply.Get(q, out.Reply)
	if err != api.OK {
		t.Fatal(q, out, err)
	}
	return p.Vals
}

// shown: what an operator reads is the view.
func shown(t *testing.T, g *Gate) {
	t.Helper()
	v := g.View()
	if l := answered(t, g, inputs(0, 32)); !slices.Equal(l, slave.Bits(v)) {
		t.Fatalf("%v, not %v", l, slave.Bits(v))
	}
	if l := answered(t, g, api.Req{Fc: api.ReadRegs, Qty: 34}); !slices.Equal(l, slave.Regs(v)) {
		t.Fatalf("%v, not %v", l, slave.Regs(v))
	}
}

func TestServe(t *testing.T) {
	g := made(t, two, 64)
	shown(t, g)
	steps(t, g, setPoint(0, 1), tick(5))
	shown(t, g)
	for _, c := range []struct{ asked, want string }{{"", "\x80\x01"}, {"\x07", "\x87\x01"}, {"\x03\x00\x00\x00\x14", "\x83\x02"}, {"\x05\x00\x00\xff\x00", "\x85\x02"}} {
		before := g.State()
		out := steps(t, g, api.Ev{Kind: api.EvServe, Pdu: []byte(c.asked)})
		if string(out.Reply) != c.want || len(out.Notes)+len(out.Sent) != 0 || !sameState(before, g.State()) {
			t.Errorf("%q: %v", c.asked, out)
		}
	}
}

func TestLampCommands(t *testing.T) {
	g := made(t, small, 64)
	steps(t, g, setPoint(0, 1), tick(3))
	look := func(want, horn int) {
		t.Helper()
		if v := g.View(); !slices.Equal(v.Looks, []int{want}) || v.Horn != horn {
			t.Fatalf("%v %d", v.Looks, v.Horn)
		}
		shown(t, g)
	}
	look(api.LookFast, api.HornOn)
	steps(t, g, command(api.CmdSilence, 0, 0, ""))
	look(api.LookFast, api.HornOff)
	steps(t, g, command(api.CmdTest, 0, 0, ""))
	look(api.LookOn, api.HornOn)
	steps(t, g, tick(1))
	look(api.LookOn, api.HornOn)
	steps(t, g, command(api.CmdNoTest, 0, 0, ""))
	look(api.LookFast, api.HornOff)
	steps(t, g, command(api.CmdAck, 0, 0, ""))
	look(api.LookOn, api.HornOff)
	steps(t, g, command(api.CmdLamps, 0, 0, ""))
	look(api.LookOn, api.HornOff)
	steps(t, g, setPoint(0, 0), tick(10), command(api.CmdReset, 0, 0, secret))
	look(api.LookOn, api.HornOff) // of kind m: back, till it is reset
	out := steps(t, g, command(api.CmdLamps, 0, 0, ""))
	if len(out.Notes) != 0 || !bytes.Equal(out.Reply, []byte{16, 0, 0, 0, 19}) {
		t.Error(out)
	}
	look(api.LookOff, api.HornOff)
	for _, code := range []int{9, 10, 65535} {
		out := steps(t, g, command(code, 0, 1, secret))
		if len(out.Notes) != 0 || !bytes.Equal(out.Reply, []byte{16, 0, 0, 0, 19}) {
			t.Error(out)
		}
	}
	look(api.LookOff, api.HornOff)
}

func TestReset(t *testing.T) {
	g := made(t, small, 64)
	steps(t, g, setPoint(0, 1), tick(10))
	stands := g.State()
	noted(t, steps(t, g, command(api.CmdReset, 0, 0, secret)).Notes)
	steps(t, g, setPoint(0, 0), tick(10))
	noted(t, steps(t, g, command(api.CmdReset, 0, 0, "another")).Notes)
	noted(t, steps(t, g, command(api.CmdReset, 0, 0, "")).Notes)
	if !sameState(g.State(), stands) || !g.Done(0) {
		t.Error(g.State())
	}
	noted(t, steps(t, g, command(api.CmdReset, 0, 0, secret)).Notes, note(api.NoteFree, 0, 20), note(api.NoteClear, 0, 20))
	if s := g.State(); s.Causes[0].Set || s.Effects[0].Set {
		t.Error(s)
	}
	noted(t, steps(t, g, command(api.CmdReset, 0, 0, secret)).Notes)
	steps(t, g, tick(1))
	if g.Done(0) || g.Coil(0) != 1 {
		t.Error("a coil goes back by itself")
	}
	steps(t, g, boot())
	if s := g.State(); s.Causes[0].Set || s.Effects[0].Set {
		t.Error("what was let go stands again")
	}
	out := steps(t, g, setPoint(0, 1), tick(5))
	noted(t, out.Notes, note(1, 0, 23), note(2, 0, 23))
	if !g.Done(0) {
		t.Error("not done again")
	}
}

func TestBypass(t *testing.T) {
	g := made(t, small, 64)
	steps(t, g, tick(20))
	for _, e := range []api.Ev{command(api.CmdBypass, 1, 5, ""), command(api.CmdBypass, 0, 21, ""), command(api.CmdBypass, 0, 0, ""), command(api.CmdDrop, 0, 0, ""), command(api.CmdDrop, 7, 0, "")} {
		out := steps(t, g, e)
		if len(out.Notes) != 0 || len(out.Reply) == 0 {
			t.Error(out)
		}
	}
	noted(t, steps(t, g, command(api.CmdBypass, 0, 20, "")).Notes, note(3, 0, 20))
	noted(t, steps(t, g, command(api.CmdBypass, 0, 20, "")).Notes)
	if v := g.View(); !v.Bypassed[0] || g.State().Ends[0] != 40 {
		t.Error(v)
	}
	shown(t, g)
	steps(t, g, setPoint(0, 1))
	noted(t, steps(t, g, tick(19)).Notes)
	if v := g.View(); !v.Trips[0] || v.Causes[0] || v.Effects[0] || !v.Bypassed[0] {
		t.Error(v)
	}
	steps(t, g, boot())
	if v := g.View(); !v.Bypassed[0] || g.State().Ends[0] != 40 {
		t.Error("a bypass is gone by a restart")
	}
	out := steps(t, g, tick(1))
	noted(t, out.Notes)
	if v := g.View(); v.Bypassed[0] {
		t.Error("a bypass goes on behind its end")
	}
	out = steps(t, g, tick(1))
	noted(t, out.Notes, note(5, 0, 41), note(1, 0, 41), note(2, 0, 41))
	g = made(t, small, 64)
	steps(t, g, setPoint(0, 1), command(api.CmdBypass, 0, 20, ""), tick(5))
	noted(t, steps(t, g, command(api.CmdDrop, 0, 0, "")).Notes, note(4, 0, 5))
	noted(t, steps(t, g, tick(1)).Notes, note(1, 0, 6), note(2, 0, 6))
}

// TestFullDisk: causes trip all the same; nothing is bypassed, or let go.
func TestFullDisk(t *testing.T) {
	g := made(t, small, 1)
	noted(t, steps(t, g, command(api.CmdBypass, 0, 20, "")).Notes)
	if s := g.State(); s.Ends[0] != 0 {
		t.Error("bypassed")
	}
	out := steps(t, g, setPoint(0, 1), tick(10))
	noted(t, out.Notes, note(1, 0, 2), note(2, 0, 2))
	if !g.Done(0) || !g.Up() {
		t.Error("not done")
	}
	noted(t, g.View().Notes)
	steps(t, g, setPoint(0, 0), tick(10))
	stands := g.State()
	out = steps(t, g, command(api.CmdReset, 0, 0, secret))
	noted(t, out.Notes)
	if !sameState(g.State(), stands) || !g.Up() || !bytes.Equal(out.Reply, []byte{16, 0, 0, 0, 19}) {
		t.Error("let go")
	}
	steps(t, g, tick(5))
	if !g.Done(0) || !sameState(g.State(), stands) {
		t.Error("let go")
	}
}

func TestRestart(t *testing.T) {
	g := made(t, two, 64)
	steps(t, g, setPoint(2, 1), setPoint(0, 1), tick(5), setPoint(0, 0), tick(20))
	stands, notes := g.State(), g.View().Notes
	if !stands.Causes[0].Set || !g.Done(0) {
		t.Fatal(stands)
	}
	steps(t, g, boot())
	if !sameState(g.State(), stands) || !slices.Equal(g.View().Notes, notes) || g.Done(0) || g.Now() != 25 || g.Coil(0) != 1 || g.View().Trips[0] {
		t.Error(g.State(), g.View())
	}
	// Everything is read anew, with new numbers; what is latched is written anew, ahead of it.
	out := steps(t, g, tick(1))
	sent(t, out.Sent, serial(1, 17, writeCoil(9, 1)), numbered(2, 1, 5, inputs(0, 1)))
	out = steps(t, g, tick(3))
	sent(t, out.Sent, serial(1, 17, readCoil(9)), serial(1, 17, inputs(3, 2)))
	if !g.Done(0) {
		t.Error("not done anew")
	}
	if v := g.View(); v.Looks[0] != api.LookFirst {
		t.Error(v)
	}
}

// TestDown: power fails as something is kept: it is told, and nothing else happens, but that time goes on.
func TestDown(t *testing.T) {
	g := made(t, small, 64)
	steps(t, g, setPoint(0, 1), failPower(0, 5))
	out := steps(t, g, tick(10))
	noted(t, out.Notes, note(1, 0, 2), note(2, 0, 2))
	sent(t, out.Sent, serial(0, 17, inputs(3, 1)))
	isDown(t, g)
	if g.Now() != 10 {
		t.Error(g.Now())
	}
	out = steps(t, g, tick(5), setPoint(0, 0), goWrong(0, api.FaultAsk, 0), failPower(0, 0))
	isDown(t, g)
	out = steps(t, g, tick(1000))
	if g.Now() != 1015 || len(out.Notes)+len(out.Sent) != 0 || g.Coil(0) != 0 {
		t.Error(out)
	}
	steps(t, g, boot())
	if s := g.State(); !g.Up() || s.Causes[0].Set || s.Effects[0].Set || g.Now() != 1015 {
		t.Error(s)
	}
	steps(t, g, tick(2))
	noted(t, g.View().Notes)
	// Power that fails by a command: it is answered, without an error.
	g = made(t, small, 64)
	out = steps(t, g, failPower(0, 5), command(api.CmdBypass, 0, 3, ""))
	noted(t, out.Notes)
	if !bytes.Equal(out.Reply, []byte{16, 0, 0, 0, 19}) {
		t.Error(out)
	}
	isDown(t, g)
	steps(t, g, boot())
	if s := g.State(); s.Ends[0] != 0 {
		t.Error(s)
	}
	// Answers that have not come go on coming: here to a poll that was asked anew.
	g = made(t, small, 64)
	steps(t, g, goWrong(0, api.FaultLate, 3), tick(1), boot())
	sent(t, steps(t, g, tick(1)).Sent, serial(0, 17, inputs(3, 1)))
}

// TestFirst: of causes that trip in one tick that of the least number is marked.
func TestFirst(t *testing.T) {
	g := made(t, two, 64)
	steps(t, g, setPoint(0, 1), setPoint(1, 1), tick(30))
	s := g.State()
	if !s.Causes[0].First || s.Causes[1].First || !s.Causes[1].Set || !s.Causes[2].First {
		t.Error(s)
	}
	if v := g.View(); !slices.Equal(v.Looks, []int{api.LookFirst, api.LookFast, api.LookFirst}) {
		t.Error(v)
	}
}

func TestMemory(t *testing.T) {
	g := made(t, small, 64)
	out := steps(t, g, setPoint(0, 1), tick(1))
	out.Sent[0].B[0] = 99
	steps(t, g, tick(3))
	s, v := g.State(), g.View()
	s.Causes[0].At, s.Ends[0] = 77, 77
	v.Notes[0].Who, v.Causes[0], v.Looks[0] = 77, false, 77
	if s, v := g.State(), g.View(); s.Causes[0].At != 2 || s.Ends[0] != 0 || v.Notes[0].Who != 0 || !v.Causes[0] || v.Looks[0] != api.LookFast {
		t.Error(s, v)
	}
	asked := append(pdu.Put(inputs(0, 1)), 7)
	g.Step(api.Ev{Kind: api.EvServe, Pdu: asked[:5]})
	if asked[5] != 7 || asked[0] != 2 {
		t.Error(asked)
	}
}
