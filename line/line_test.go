package line

import (
	"bytes"
	"math"
	"math/rand"
	"slices"
	"testing"

	"watchkeeper/api"
	"watchkeeper/mbap"
	"watchkeeper/pdu"
	"watchkeeper/reply"
	"watchkeeper/rtu"
)

func read(addr int) api.Req { return api.Req{Fc: api.ReadHolding, Addr: addr, Qty: 1} }

func job(id, unit int, q api.Req) api.Job { return api.Job{Id: id, Unit: unit, Req: q} }

func sameJob(a, b api.Job) bool {
	return a.Id == b.Id && a.Unit == b.Unit && a.Urgent == b.Urgent && bytes.Equal(pdu.Put(a.Req), pdu.Put(b.Req))
}

// frame is what is to go on a line of a request.
func frame(streams bool, number, unit int, q api.Req) []byte {
	if streams {
		return mbap.Put(api.Adu{Id: uint16(number), Unit: byte(unit), Pdu: pdu.Put(q)})
	}
	return rtu.Put(byte(unit), pdu.Put(q))
}

// back is what comes of an answer.
func back(streams bool, number, unit int, q api.Req, p api.Rep) []byte {
	if streams {
		return mbap.Put(api.Adu{Id: uint16(number), Unit: byte(unit), Pdu: reply.Put(q, p)})
	}
	return rtu.Put(byte(unit), reply.Put(q, p))
}

func is(t *testing.T, got, want []api.Done) {
	t.Helper()
	if !slices.EqualFunc(got, want, func(a, b api.Done) bool {
		return a.Id == b.Id && a.Err == b.Err && a.Rep.Code == b.Rep.Code && slices.Equal(a.Rep.Vals, b.Rep.Vals)
	}) {
		t.Fatalf("%v, not %v", got, want)
	}
}

func tick(t *testing.T, l *Line, now int64, sent []byte, done ...api.Done) {
	t.Helper()
	b, d := l.Tick(now)
	if !bytes.Equal(b, sent) {
		t.Fatalf("at %d: %x, not %x", now, b, sent)
	}
	is(t, d, done)
}

func busy(t *testing.T, l *Line, want api.Job, some bool) {
	t.Helper()
	if j, b := l.Busy(); b != some || !sameJob(j, want) {
		t.Fatalf("%v %v, not %v", j, b, want)
	}
}

func late(id int) api.Done { return api.Done{Id: id, Err: api.ErrLate} }

func fine(id int, vals ...uint16) api.Done { return api.Done{Id: id, Rep: api.Rep{Vals: vals}} }

func TestNew(t *testing.T) {
	for _, c := range []struct {
		retries, wait int64
		want          bool
	}{{0, 1, true}, {7, 1000, true}, {-1, 1, false}, {8, 1, false}, {0, 0, false}, {0, 1001, false}, {math.MinInt64, 1, false}, {0, math.MaxInt64, false}} {
		for _, streams := range []bool{false, true} {
			l := New(streams, c.retries, c.wait)
			if (l != nil) != c.want {
				t.Errorf("%v: %v", c, l)
			}
			if l == nil {
				continue
			}
			busy(t, l, api.Job{}, false)
			tick(t, l, 0, nil)
			is(t, l.Hear([]byte{1, 2, 3}), nil)
		}
	}
}

func TestAsk(t *testing.T) {
	l := New(false, 0, 1)
	for _, j := range []api.Job{job(1, 0, read(1)), job(1, -1, read(1)), job(1, 248, read(1)), job(1, math.MaxInt, read(1)), job(1, 1, api.Req{}), job(1, 1, read(65536)), {Id: 1, Unit: 0, Req: read(1), Urgent: true}} {
		if l.Ask(j) {
			t.Errorf("%v", j)
		}
	}
	for i := range 64 {
		if !l.Ask(job(i, 1+i*3, read(i))) {
			t.Fatal(i)
		}
	}
	if l.Ask(job(1, 1, read(1))) {
		t.Error("a job above the most")
	}
	for i := range 64 {
		if !l.Ask(api.Job{Id: i, Unit: 247, Req: read(i), Urgent: true}) {
			t.Fatal(i)
		}
	}
	if l.Ask(api.Job{Unit: 1, Req: read(1), Urgent: true}) {
		t.Error("a job above the most")
	}
	if u, o := l.Many(); u != 64 || o != 64 {
		t.Error(u, o)
	}
	busy(t, l, api.Job{}, false)
}

// TestOfTheDocument: Retries 1, Wait 3, asked at 0: sent at 0 and 3, late at 6.
func TestOfTheDocument(t *testing.T) {
	for _, streams := range []bool{false, true} {
		l := New(streams, 1, 3)
		q := read(5)
		l.Ask(job(7, 9, q))
		tick(t, l, 0, frame(streams, 1, 9, q))
		busy(t, l, job(7, 9, q), true)
		tick(t, l, 1, nil)
		tick(t, l, 2, nil)
		tick(t, l, 3, frame(streams, 2, 9, q))
		tick(t, l, 5, nil)
		tick(t, l, 6, nil, late(7))
		busy(t, l, api.Job{}, false)
		tick(t, l, 9, nil)
	}
}

// TestLateAndNext: a job that is done with ErrLate makes room for the next one in the same tick.
func TestLateAndNext(t *testing.T) {
	l := New(true, 0, 2)
	l.Ask(job(1, 9, read(1)))
	l.Ask(job(2, 8, read(2)))
	tick(t, l, 10, frame(true, 1, 9, read(1)))
	tick(t, l, 5, nil)
	tick(t, l, 11, nil)
	tick(t, l, 50, frame(true, 2, 8, read(2)), late(1))
	tick(t, l, 51, nil)
	tick(t, l, 52, nil, late(2))
}

func TestTickAtNoTime(t *testing.T) {
	l := New(false, 0, 1)
	l.Ask(job(1, 9, read(1)))
	for _, now := range []int64{-1, math.MinInt64, api.MaxClock + 1, math.MaxInt64} {
		tick(t, l, now, nil)
	}
	busy(t, l, api.Job{}, false)
	if _, o := l.Many(); o != 1 {
		t.Error(o)
	}
	tick(t, l, 0, frame(false, 0, 9, read(1)))
	tick(t, l, math.MaxInt64, nil)
	busy(t, l, job(1, 9, read(1)), true)
	tick(t, l, api.MaxClock, nil, late(1))
	l.Ask(job(2, 9, read(1)))
	tick(t, l, api.MaxClock, frame(false, 0, 9, read(1)))
}

func TestUrgent(t *testing.T) {
	l := New(false, 0, 5)
	l.Ask(job(1, 1, read(1)))
	l.Ask(job(2, 1, read(2)))
	tick(t, l, 0, frame(false, 0, 1, read(1)))
	l.Ask(api.Job{Id: 3, Unit: 1, Req: read(3), Urgent: true})
	l.Ask(api.Job{Id: 4, Unit: 1, Req: read(4), Urgent: true})
	if u, o := l.Many(); u != 2 || o != 1 {
		t.Error(u, o)
	}
	for _, i := range []int{3, 4, 2} {
		j, _ := l.Busy()
		is(t, l.Hear(back(false, 0, 1, j.Req, api.Rep{Vals: []uint16{9}})), []api.Done{fine(j.Id, 9)})
		tick(t, l, 1, frame(false, 0, 1, read(i)))
	}
}

func TestAnswers(t *testing.T) {
	for _, streams := range []bool{false, true} {
		for _, c := range []struct {
			q    api.Req
			p    api.Rep
			want api.Errno
		}{
			{read(1), api.Rep{Vals: []uint16{77}}, api.OK},
			{read(1), api.Rep{Code: 2}, api.ErrAlarm},
			{api.Req{Fc: 5, Addr: 1, Vals: []uint16{1}}, api.Rep{}, api.OK},
			{api.Req{Fc: 1, Addr: 1, Qty: 3}, api.Rep{Vals: []uint16{1, 0, 1}}, api.OK},
			{api.Req{Fc: 16, Addr: 1, Qty: 2, Vals: []uint16{4, 5}}, api.Rep{Code: 4}, api.ErrAlarm},
		} {
			l := New(streams, 0, 5)
			l.Ask(job(3, 20, c.q))
			b := back(streams, 1, 20, c.q, c.p)
			is(t, l.Hear(b), nil)
			tick(t, l, 0, frame(streams, 1, 20, c.q))
			is(t, l.Hear(b), []api.Done{{Id: 3, Err: c.want, Rep: c.p}})
			busy(t, l, api.Job{}, false)
			is(t, l.Hear(b), nil)
			tick(t, l, 5, nil)
		}
	}
}

// TestNobodyElse: what is no answer to what was asked changes nothing.
func TestNobodyElse(t *testing.T) {
	for _, streams := range []bool{false, true} {
		l := New(streams, 0, 5)
		q, p := read(1), api.Rep{Vals: []uint16{77}}
		l.Ask(job(3, 20, q))
		tick(t, l, 0, frame(streams, 1, 20, q))
		good := back(streams, 1, 20, q, p)
		turned := bytes.Clone(good)
		turned[len(turned)-1] ^= 1
		if streams {
			turned[2] ^= 1
		}
		for i, b := range [][]byte{
			nil, {}, turned,
			back(streams, 1, 21, q, p),
			back(streams, 1, 20, api.Req{Fc: 4, Qty: 1}, p),
			back(streams, 1, 20, api.Req{Fc: 3, Qty: 2}, api.Rep{Vals: []uint16{1, 2}}),
			back(streams, 1, 20, api.Req{Fc: 4, Qty: 1}, api.Rep{Code: 1}),
			back(true, 2, 20, q, p), back(true, 0, 20, q, p), back(true, 257, 20, q, p),
		} {
			if i >= 7 && !streams {
				continue
			}
			is(t, l.Hear(b), nil)
			busy(t, l, job(3, 20, q), true)
		}
		tick(t, l, 4, nil)
		is(t, l.Hear(good), []api.Done{fine(3, 77)})
	}
}

// TestLateAnswers: on a stream an answer to what was sent ahead of the last time is none; on another line it is one.
func TestLateAnswers(t *testing.T) {
	q, p := read(1), api.Rep{Vals: []uint16{5}}
	l := New(true, 1, 2)
	l.Ask(job(1, 9, q))
	tick(t, l, 0, frame(true, 1, 9, q))
	tick(t, l, 2, frame(true, 2, 9, q))
	is(t, l.Hear(back(true, 1, 9, q, p)), nil)
	is(t, l.Hear(back(true, 2, 9, q, p)), []api.Done{fine(1, 5)})
	l = New(false, 1, 2)
	l.Ask(job(1, 9, q))
	tick(t, l, 0, frame(false, 0, 9, q))
	tick(t, l, 2, frame(false, 0, 9, q))
	is(t, l.Hear(back(false, 0, 9, q, p)), []api.Done{fine(1, 5)})
	is(t, l.Hear(back(false, 0, 9, q, p)), nil)
}

func TestNumberComesRound(t *testing.T) {
	l := New(true, 0, 1)
	q := read(1)
	for i := 1; i <= 65540; i++ {
		l.Ask(job(i, 9, q))
		tick(t, l, int64(i), frame(true, i%65536, 9, q))
		is(t, l.Hear(back(true, i%65536, 9, q, api.Rep{Vals: []uint16{1}})), []api.Done{fine(i, 1)})
	}
}

// TestPieces: frames of a stream come in whichever pieces; what is no frame spoils what came with it alone.
func TestPieces(t *testing.T) {
	q, p := read(1), api.Rep{Vals: []uint16{5}}
	r := rand.New(rand.NewSource(1))
	l := New(true, 0, 5)
	for i := 1; i <= 300; i++ {
		l.Ask(job(i, 9, q))
		tick(t, l, int64(i), frame(true, i, 9, q))
		b := append(back(true, i-1, 9, q, p), back(true, i, 8, q, p)...)
		b = append(b, back(true, i, 9, q, p)...)
		b = append(b, back(true, i, 9, q, api.Rep{Vals: []uint16{6}})...)
		var done []api.Done
		for len(b) > 0 {
			n := 1 + r.Intn(min(9, len(b)))
			done = append(done, l.Hear(b[:n])...)
			b = b[n:]
		}
		is(t, done, []api.Done{fine(i, 5)})
	}
	l = New(true, 0, 5)
	l.Ask(job(1, 9, q))
	tick(t, l, 0, frame(true, 1, 9, q))
	good := back(true, 1, 9, q, p)
	is(t, l.Hear(append([]byte{0, 0, 1}, good...)), nil)
	is(t, l.Hear(good[:5]), nil)
	is(t, l.Hear([]byte{0, 255}), nil)
	is(t, l.Hear(good[5:]), nil)
	is(t, l.Hear([]byte{9, 9}), nil)
	l = New(true, 0, 5)
	l.Ask(job(1, 9, q))
	tick(t, l, 0, frame(true, 1, 9, q))
	is(t, l.Hear(append(bytes.Clone(good), 0, 0, 9, 9)), []api.Done{fine(1, 5)})
	l.Ask(job(2, 9, q))
	tick(t, l, 1, frame(true, 2, 9, q))
	is(t, l.Hear(back(true, 2, 9, q, p)), []api.Done{fine(2, 5)})
	// A silence means nothing to a stream: what came while nothing was asked is kept.
	is(t, l.Hear(back(true, 3, 9, q, p)[:7]), nil)
	l.Ask(job(3, 9, q))
	tick(t, l, 2, frame(true, 3, 9, q))
	is(t, l.Hear(back(true, 3, 9, q, p)[7:]), []api.Done{fine(3, 5)})
}

// TestWholeFramesAlone: on a line that is no stream what is heard at once is one frame.
func TestWholeFramesAlone(t *testing.T) {
	q, p := read(1), api.Rep{Vals: []uint16{5}}
	l := New(false, 0, 5)
	l.Ask(job(1, 9, q))
	tick(t, l, 0, frame(false, 0, 9, q))
	good := back(false, 0, 9, q, p)
	is(t, l.Hear(good[:4]), nil)
	is(t, l.Hear(good[4:]), nil)
	is(t, l.Hear(append(bytes.Clone(good), good...)), nil)
	is(t, l.Hear(good), []api.Done{fine(1, 5)})
}

// TestOnce: each job is done once, with its answer, or with ErrLate behind all that was sent in time; urgent ones go ahead.
func TestOnce(t *testing.T) {
	for seed := range 60 {
		r := rand.New(rand.NewSource(int64(seed)))
		streams := seed%2 == 0
		retries, wait := r.Int63n(4), 1+r.Int63n(5)
		l := New(streams, retries, wait)
		done := map[int]int{}
		id, number := 0, 0
		var at, times int64
		var last api.Job
		for now := int64(0); now < 2000; now++ {
			if r.Intn(3) == 0 {
				id++
				l.Ask(api.Job{Id: id, Unit: 1 + r.Intn(247), Req: read(id), Urgent: r.Intn(3) == 0})
			}
			urgent, _ := l.Many()
			was, wasBusy := l.Busy()
			sent, d := l.Tick(now)
			for _, x := range d {
				done[x.Id]++
				if x.Err != api.ErrLate || x.Id != was.Id || times != retries+1 || now-at != wait {
					t.Fatalf("%v at %d, behind %d of %d", x, now, times, at)
				}
			}
			j, isBusy := l.Busy()
			if wasBusy && len(d) == 0 && len(sent) > 0 {
				if now-at != wait || !sameJob(j, was) {
					t.Fatalf("sent again at %d, not at %d", now, at+wait)
				}
				times++
			} else if len(sent) > 0 {
				if urgent > 0 && !j.Urgent {
					t.Fatal("another one goes ahead of an urgent one")
				}
				times, last = 1, j
			}
			if len(sent) > 0 {
				at, number = now, (number+1)%65536
				if !bytes.Equal(sent, frame(streams, number, last.Unit, last.Req)) {
					t.Fatalf("%x", sent)
				}
			}
			if isBusy && r.Intn(6) == 0 {
				p := api.Rep{Vals: []uint16{uint16(r.Intn(65536))}}
				d := l.Hear(back(streams, number, j.Unit, j.Req, p))
				is(t, d, []api.Done{{Id: j.Id, Rep: p}})
				done[j.Id]++
			}
		}
		for id, n := range done {
			if n != 1 {
				t.Fatalf("%d is done %d times", id, n)
			}
		}
		if len(done) < 50 {
			t.Error(len(done))
		}
	}
}

func TestMemory(t *testing.T) {
	l := New(true, 1, 1)
	vals := []uint16{7, 8, 9}
	q := api.Req{Fc: 16, Addr: 1, Qty: 2, Vals: vals[:2]}
	l.Ask(job(1, 9, q))
	want := frame(true, 1, 9, q)
	vals[0] = 99
	b, _ := l.Tick(0)
	if !bytes.Equal(b, want) {
		t.Error("a job is kept by its memory")
	}
	b[7] = 0
	j, _ := l.Busy()
	j.Req.Vals[0] = 98
	want[1] = 2
	tick(t, l, 1, want)
	part := back(true, 2, 9, api.Req{Fc: 16, Addr: 1, Qty: 2, Vals: []uint16{7, 8}}, api.Rep{})
	first := bytes.Clone(part[:8])
	l.Hear(first)
	first[7] = 0
	is(t, l.Hear(part[8:]), []api.Done{{Id: 1}})
}
