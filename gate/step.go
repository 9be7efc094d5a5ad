package gate

import "watchkeeper/api"

// events are what may happen.
func events() map[int]func(*Gate, api.Ev) api.Out {
	return map[int]func(*Gate, api.Ev) api.Out{
		api.EvTick:  (*Gate).ticks,
		api.EvSet:   (*Gate).set,
		api.EvFault: (*Gate).fault,
		api.EvServe: (*Gate).serve,
		api.EvCut:   (*Gate).cut,
		api.EvBoot:  (*Gate).boot,
	}
}

// Step is what comes of an event.
func (g *Gate) Step(e api.Ev) api.Out {
	does, is := events()[e.Kind]
	if !is {
		return wrong(api.ErrArg)
	}
	return does(g, e)
}

func wrong(err api.Errno) api.Out { return api.Out{Err: err} }

func (g *Gate) ticks(e api.Ev) api.Out {
	if e.N < 1 || e.N > api.MaxTicks {
		return wrong(api.ErrArg)
	}
	var out api.Out
	for range e.N {
		g.tick(&out)
	}
	return out
}

func (g *Gate) set(e api.Ev) api.Out {
	if e.A < 0 || e.A >= len(g.m.Points) {
		return wrong(api.ErrNone)
	}
	p := g.m.Points[e.A]
	g.field.Set(p.Device, p.Place, e.B)
	return api.Out{}
}

func (g *Gate) fault(e api.Ev) api.Out {
	if !g.field.Fault(e.A, e.B, e.N) {
		return wrong(api.ErrArg)
	}
	return api.Out{}
}

func (g *Gate) cut(e api.Ev) api.Out {
	if e.A < 0 {
		return wrong(api.ErrArg)
	}
	g.disk.Cut(e.A, e.B)
	return api.Out{}
}

func (g *Gate) boot(api.Ev) api.Out {
	g.disk.Boot()
	return api.Out{Err: g.start()}
}

func (g *Gate) serve(e api.Ev) api.Out {
	if !g.Up() {
		return wrong(api.ErrDown)
	}
	reply, c, is := g.run.slave.Serve(e.Pdu)
	out := api.Out{Reply: reply}
	if is {
		out.Notes = g.command(c)
	}
	if g.Up() {
		g.show()
	}
	return out
}

// command does what an operator wants: what happened.
func (g *Gate) command(c api.Cmd) []api.Note {
	core := g.run.core
	switch c.Code {
	case api.CmdAck:
		g.run.panel.Ack()
	case api.CmdSilence:
		g.run.panel.Silence()
	case api.CmdLamps:
		g.run.panel.Reset()
	case api.CmdTest, api.CmdNoTest:
		g.run.panel.Test(c.Code == api.CmdTest)
	case api.CmdBypass:
		return g.kept(func() ([]api.Note, api.Errno) { return core.Bypass(c.Cause, c.Ticks, g.now) })
	case api.CmdDrop:
		return g.kept(func() ([]api.Note, api.Errno) { return core.Drop(c.Cause, g.now) })
	case api.CmdReset:
		return g.kept(func() ([]api.Note, api.Errno) { return core.Reset(c.Key, g.now) })
	}
	return nil
}

// kept does something just if it comes to stand on the disk: what happened.
func (g *Gate) kept(does func() ([]api.Note, api.Errno)) []api.Note {
	before := g.run.core.State()
	notes, err := does()
	if err != api.OK || len(notes) == 0 {
		return nil
	}
	switch g.run.store.Put(g.run.core.State(), notes) {
	case api.OK:
		return notes
	case api.ErrDown:
		g.run = nil
	default:
		g.run.core.Load(before)
	}
	return nil
}
