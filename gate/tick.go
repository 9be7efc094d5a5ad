package gate

import "watchkeeper/api"

// The numbers of jobs: a poll's is its place, an effect's stands behind one of these.
const (
	writeId = 100
	readId  = 200
)

// tick has one tick pass: what happened, and what went on lines, stands behind what out has.
func (g *Gate) tick(out *api.Out) {
	g.now = min(g.now+1, api.MaxClock)
	if !g.Up() {
		return
	}
	g.hear()
	g.poll()
	g.scan(out)
	if !g.Up() {
		return
	}
	g.write()
	g.send(out)
	g.show()
}

// hear hears what has come on all lines.
func (g *Gate) hear() {
	for i, l := range g.run.lines {
		for _, b := range g.field.Due(i, g.now) {
			g.ended(l.Hear(b))
		}
	}
}

// poll asks for what is to be read.
func (g *Gate) poll() {
	for i := range g.run.polls {
		p := &g.run.polls[i]
		if p.asked || g.now < p.next {
			continue
		}
		g.ask(p.Device, api.Job{Id: i, Req: api.Req{Fc: api.ReadInputs, Addr: p.From, Qty: p.Many}})
		p.asked, p.next = true, g.now+g.m.Cycle
	}
}

// ask has a job for a device wait on its line; false: it may not.
func (g *Gate) ask(device int, j api.Job) bool {
	d := g.m.Devices[device]
	j.Unit = d.Unit
	return g.run.lines[d.Line].Ask(j)
}

// scan says which causes trip, by what is known of the points.
func (g *Gate) scan(out *api.Out) {
	if !g.known() {
		return
	}
	var l []api.Sample
	for _, s := range g.run.samples {
		if g.now-s.at > g.age {
			s.Sample = api.Sample{}
		}
		l = append(l, s.Sample)
	}
	if notes := g.run.core.Scan(l, g.now); len(notes) > 0 {
		out.Notes = append(out.Notes, notes...)
		g.keep(notes)
	}
}

// known says whether all that is read was read once, or would have been by now.
func (g *Gate) known() bool {
	if g.now-g.run.since > g.age {
		return true
	}
	for _, p := range g.run.polls {
		if !p.once {
			return false
		}
	}
	return true
}

// keep has what stands, and what happened, stand on the disk. What trips does so with a full disk too.
func (g *Gate) keep(notes []api.Note) {
	if g.run.store.Put(g.run.core.State(), notes) == api.ErrDown {
		g.run = nil
	}
}

// write asks for what is to be safe.
func (g *Gate) write() {
	latches := g.run.core.State().Effects
	for i := range g.run.effects {
		e := &g.run.effects[i]
		if !latches[i].Set {
			e.step = idle
			continue
		}
		q := api.Req{Fc: api.WriteCoil, Addr: e.Place, Vals: []uint16{uint16(e.Safe)}}
		if e.step == idle && g.ask(e.Device, api.Job{Id: writeId + i, Req: q, Urgent: true}) {
			e.step = written
		}
	}
}

// send has what is asked go on all lines.
func (g *Gate) send(out *api.Out) {
	for i, l := range g.run.lines {
		b, ended := l.Tick(g.now)
		g.ended(ended)
		if len(b) > 0 {
			g.field.Ask(i, b, g.now)
			out.Sent = append(out.Sent, api.Frame{Line: i, B: b})
		}
	}
}

// ended goes by what came of jobs.
func (g *Gate) ended(l []api.Done) {
	for _, d := range l {
		switch {
		case d.Id >= readId:
			g.wasRead(d.Id-readId, d)
		case d.Id >= writeId:
			g.wasWritten(d.Id-writeId, d)
		default:
			g.wasPolled(d.Id, d)
		}
	}
}

func (g *Gate) wasPolled(i int, d api.Done) {
	p := &g.run.polls[i]
	p.asked, p.once = false, true
	if d.Err != api.OK {
		p.next = max(p.next, g.now+g.m.Back)
	}
	for k, x := range g.m.Points {
		if x.Device != p.Device {
			continue
		}
		g.run.samples[k] = sample{at: g.now}
		if d.Err == api.OK {
			g.run.samples[k].Sample = api.Sample{Known: true, Val: int(d.Rep.Vals[x.Place-p.From])}
		}
	}
}

// wasWritten has what was written be read back.
func (g *Gate) wasWritten(i int, d api.Done) {
	e := &g.run.effects[i]
	if e.step != written {
		return
	}
	e.step = idle
	q := api.Req{Fc: api.ReadCoils, Addr: e.Place, Qty: 1}
	if d.Err == api.OK && g.ask(e.Device, api.Job{Id: readId + i, Req: q, Urgent: true}) {
		e.step = read
	}
}

func (g *Gate) wasRead(i int, d api.Done) {
	e := &g.run.effects[i]
	if e.step != read {
		return
	}
	e.step = idle
	if d.Err == api.OK && int(d.Rep.Vals[0]) == e.Safe {
		e.step = done
	}
}
