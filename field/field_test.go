package field

import (
	"bytes"
	"math"
	"math/rand"
	"slices"
	"testing"

	"watchkeeper/api"
	"watchkeeper/bank"
	"watchkeeper/mbap"
	"watchkeeper/pdu"
	"watchkeeper/rtu"
)

const top = 1 << 40

var devices = []api.Device{{Name: "a", Line: 0, Unit: 1}, {Name: "b", Line: 0, Unit: 2}, {Name: "c", Line: 2, Unit: 1}, {Name: "d", Line: 3, Unit: 255}}

// frame is a frame for a line; a number counts on streams alone.
func frame(line, id, unit int, b []byte) []byte {
	if line >= 2 {
		return mbap.Put(api.Adu{Id: uint16(id), Unit: byte(unit), Pdu: b})
	}
	return rtu.Put(byte(unit), b)
}

func due(t *testing.T, f *Field, line int, now int64, want ...[]byte) {
	t.Helper()
	if l := f.Due(line, now); !slices.EqualFunc(l, want, bytes.Equal) {
		t.Fatalf("line %d at %d: %x, not %x", line, now, l, want)
	}
}

func waits(t *testing.T, f *Field, want ...int) {
	t.Helper()
	for line, n := range want {
		if f.Waits(line) != n {
			t.Fatalf("line %d: %d, not %d", line, f.Waits(line), n)
		}
	}
}

var (
	askOn   = pdu.Put(api.Req{Fc: api.WriteCoil, Addr: 7, Vals: []uint16{1}})
	askOff  = pdu.Put(api.Req{Fc: api.WriteCoil, Addr: 7, Vals: []uint16{0}})
	askRead = pdu.Put(api.Req{Fc: api.ReadInputs, Addr: 3, Qty: 2})
)

func coil(t *testing.T, f *Field, device, want int) {
	t.Helper()
	if v, is := f.Coil(device, 7); v != want || !is {
		t.Fatalf("%d: %d %v", device, v, is)
	}
}

func TestNew(t *testing.T) {
	f := New(devices)
	waits(t, f, 0, 0, 0, 0)
	for _, i := range []int{-1, 4, math.MinInt, math.MaxInt} {
		if f.Set(i, 0, 1) || f.Waits(i) != 0 || len(f.Due(i, 9)) != 0 || f.Fault(i, 1, 1) {
			t.Error(i)
		}
		if v, is := f.Coil(i, 0); v != 0 || is {
			t.Error(i)
		}
		f.Ask(i, rtu.Put(1, askOn), 1)
	}
	for device := range 4 {
		for _, place := range []int{0, 255} {
			if v, is := f.Coil(device, place); v != 0 || !is || !f.Set(device, place, 1) {
				t.Error(device, place)
			}
		}
		for _, place := range []int{-1, 256, math.MinInt, math.MaxInt} {
			if v, is := f.Coil(device, place); v != 0 || is || f.Set(device, place, 1) {
				t.Error(device, place)
			}
		}
	}
	if New(nil).Set(0, 0, 1) {
		t.Error("none has a place")
	}
}

func TestAsk(t *testing.T) {
	for device, d := range devices {
		f := New(devices)
		for v, want := range map[int]byte{0: 0, 1: 1, -1: 1, 65536: 1, math.MinInt: 1} {
			f.Set(device, 3, v)
			f.Ask(d.Line, frame(d.Line, 9, d.Unit, askRead), 5)
			due(t, f, d.Line, 5)
			due(t, f, d.Line, math.MinInt64)
			due(t, f, d.Line, 6, frame(d.Line, 9, d.Unit, []byte{2, 1, want}))
			due(t, f, d.Line, 6)
		}
		f.Ask(d.Line, frame(d.Line, 9, d.Unit, askOn), 0)
		coil(t, f, device, 1)
		f.Ask(d.Line, frame(d.Line, 10, d.Unit, askOff), top)
		coil(t, f, device, 0)
		f.Ask(d.Line, frame(d.Line, 11, d.Unit, []byte{9}), 3)
		due(t, f, d.Line, 4, frame(d.Line, 9, d.Unit, askOn), frame(d.Line, 11, d.Unit, []byte{0x89, 1}))
		due(t, f, d.Line, math.MaxInt64, frame(d.Line, 10, d.Unit, askOff))
		waits(t, f, 0, 0, 0, 0)
		for i := range devices {
			if i != device {
				coil(t, f, i, 0)
			}
		}
	}
}

func TestPlaces(t *testing.T) {
	f := New(devices)
	for q, want := range map[string][]byte{
		string(pdu.Put(api.Req{Fc: 1, Addr: 255, Qty: 1})):                   {1, 1, 0},
		string(pdu.Put(api.Req{Fc: 2, Addr: 255, Qty: 1})):                   {2, 1, 0},
		string(pdu.Put(api.Req{Fc: 1, Addr: 255, Qty: 2})):                   {0x81, 2},
		string(pdu.Put(api.Req{Fc: 3, Addr: 0, Qty: 1})):                     {0x83, 2},
		string(pdu.Put(api.Req{Fc: 4, Addr: 0, Qty: 1})):                     {0x84, 2},
		string(pdu.Put(api.Req{Fc: 6, Addr: 0, Vals: []uint16{1}})):          {0x86, 2},
		string(pdu.Put(api.Req{Fc: 15, Addr: 0, Qty: 1, Vals: []uint16{1}})): {15, 0, 0, 0, 1},
		string(pdu.Put(api.Req{Fc: 1, Addr: 0, Qty: 256})):                   append([]byte{1, 32}, append([]byte{0}, make([]byte, 31)...)...),
	} {
		f = New(devices)
		f.Ask(0, frame(0, 0, 1, []byte(q)), 0)
		due(t, f, 0, 1, frame(0, 0, 1, want))
	}
}

// TestNoFrames: what is no frame, or is for nobody, is not answered, and does nothing.
func TestNoFrames(t *testing.T) {
	for _, line := range []int{0, 1, 2, 3} {
		good := frame(line, 1, 1, askOn)
		for i, b := range [][]byte{
			nil, {}, good[:len(good)-1], append(bytes.Clone(good), 7), append(bytes.Clone(good), good...), frame(line, 1, 99, askOn), frame(line, 1, 0, askOn), frame(3-line, 1, 1, askOn),
		} {
			f := New([]api.Device{{Line: 0, Unit: 1}, {Line: 1, Unit: 1}, {Line: 2, Unit: 1}, {Line: 3, Unit: 1}})
			f.Ask(line, b, 1)
			waits(t, f, 0, 0, 0, 0)
			for device := range 4 {
				coil(t, f, device, 0)
			}
			if i == 0 {
				f.Ask(line, good, 1)
				coil(t, f, line, 1)
			}
		}
		f := New(devices)
		for _, now := range []int64{-1, top + 1, math.MinInt64, math.MaxInt64} {
			f.Fault(line, api.FaultAsk, 0)
			f.Ask(line, good, now)
		}
		waits(t, f, 0, 0, 0, 0)
		coil(t, f, 0, 0)
		for range 4 {
			f.Ask(line, good, 0)
		}
		waits(t, f, 0, 0, 0, 0)
	}
	for _, line := range []int{0, 3} {
		f := New([]api.Device{{Line: line, Unit: 0}})
		for _, b := range [][]byte{nil, {1}, {0, 0, 0, 0}, frame(3-line, 1, 0, askOn), make([]byte, 300)} {
			f.Ask(line, b, 1)
		}
		if f.Waits(line) != 0 {
			t.Error("what is no frame goes to the unit 0")
		}
	}
	spoiled := frame(0, 1, 1, askOn)
	spoiled[1] ^= 1
	f := New(devices)
	f.Ask(0, spoiled, 1)
	waits(t, f, 0)
}

// TestOddDevices: one whose line or unit is none is never asked, but has places; of two at one place the first is asked.
func TestOddDevices(t *testing.T) {
	f := New([]api.Device{{Line: 0, Unit: 256}, {Line: 4, Unit: 1}, {Line: -1, Unit: 1}, {Line: 0, Unit: -1}, {Line: 0, Unit: 5}, {Line: 0, Unit: 5}, {Line: 1, Unit: 0}})
	for line := range 4 {
		for unit := range 256 {
			f.Ask(line, frame(line, 1, unit, askOn), 1)
		}
	}
	for device, want := range []int{0, 0, 0, 0, 1, 0, 1} {
		coil(t, f, device, want)
		if !f.Set(device, 0, 1) {
			t.Error(device)
		}
	}
	waits(t, f, 1, 1, 0, 0)
}

func TestFaults(t *testing.T) {
	for device, d := range devices {
		good := frame(d.Line, 1, d.Unit, askOn)
		f := New(devices)
		ask := func(kind int, n int64) {
			t.Helper()
			f = New(devices)
			if !f.Fault(d.Line, kind, n) {
				t.Fatal(kind, n)
			}
			f.Ask(d.Line, good, 10)
		}
		ask(api.FaultAsk, 3)
		coil(t, f, device, 0)
		waits(t, f, 0, 0, 0, 0)
		f.Ask(d.Line, good, 10)
		coil(t, f, device, 1)
		due(t, f, d.Line, 11, good)
		ask(api.FaultReply, 3)
		coil(t, f, device, 1)
		waits(t, f, 0, 0, 0, 0)
		ask(api.FaultSpoil, 3)
		coil(t, f, device, 1)
		turned := bytes.Clone(good)
		if d.Line >= 2 {
			turned[2] ^= 1
		} else {
			turned[len(turned)-1] ^= 1
		}
		due(t, f, d.Line, 11, turned)
		ask(api.FaultLate, 3)
		coil(t, f, device, 1)
		due(t, f, d.Line, 13)
		due(t, f, d.Line, 14, good)
		ask(api.FaultLate, 0)
		due(t, f, d.Line, 11, good)
		ask(api.FaultLate, top)
		due(t, f, d.Line, top+10)
		due(t, f, d.Line, top+11, good)
	}
}

func TestFaultsInOrder(t *testing.T) {
	f := New(devices)
	for _, c := range [][2]int64{{0, 0}, {5, 0}, {-1, 0}, {1, -1}, {4, top + 1}, {math.MaxInt64, 1}, {4, math.MaxInt64}} {
		if f.Fault(0, int(c[0]), c[1]) {
			t.Error(c)
		}
	}
	f.Fault(0, api.FaultLate, 5)
	f.Fault(0, api.FaultAsk, 0)
	f.Fault(0, api.FaultLate, 1)
	a, b, c := frame(0, 0, 1, askOn), frame(0, 0, 1, askRead), frame(0, 0, 2, askOff)
	f.Ask(0, a, 0)
	f.Ask(0, b, 0)
	f.Ask(0, c, 0)
	f.Ask(0, a, 3)
	waits(t, f, 3, 0, 0, 0)
	due(t, f, 0, 1)
	due(t, f, 0, 3, c)
	due(t, f, 0, 6, a, a)
	// What is no frame takes its fault all the same.
	f.Fault(0, api.FaultAsk, 0)
	f.Ask(0, nil, 9)
	f.Ask(0, a, 9)
	waits(t, f, 1)
	for i := range 1000 {
		if !f.Fault(3, 1, 0) {
			t.Fatal(i)
		}
	}
	if f.Fault(3, 1, 0) || !f.Fault(2, 1, 0) {
		t.Error("the most that may come")
	}
	f.Ask(3, nil, 0)
	if !f.Fault(3, 1, 0) || f.Fault(3, 1, 0) {
		t.Error("the most that may come")
	}
}

// TestAsAsked: what goes on lines without faults is done as a bank of the device's own serves it, whatever goes wrong on others.
func TestAsAsked(t *testing.T) {
	r := rand.New(rand.NewSource(1))
	f := New(devices)
	var banks []*bank.Bank
	for range devices {
		banks = append(banks, bank.New([4]int{256, 256}))
	}
	for now := int64(0); now < 20000; now++ {
		i := r.Intn(len(devices))
		d := devices[i]
		place, v := r.Intn(256), r.Intn(2)
		f.Set(i, place, v)
		banks[i].Put(api.Inputs, place, uint16(v))
		if r.Intn(3) == 0 {
			f.Fault(1, 1+r.Intn(4), 9)
			f.Ask(1, frame(1, 0, 1, askOn), now)
		}
		q := api.Req{Fc: 1 + r.Intn(2), Addr: r.Intn(300), Qty: 1 + r.Intn(9)}
		if r.Intn(2) == 0 {
			q = api.Req{Fc: api.WriteCoil, Addr: r.Intn(260), Vals: []uint16{uint16(r.Intn(2))}}
		}
		asked := pdu.Put(q)
		if r.Intn(9) == 0 {
			asked[r.Intn(len(asked))] ^= 1 << r.Intn(8)
		}
		f.Ask(d.Line, frame(d.Line, int(now), d.Unit, asked), now)
		due(t, f, d.Line, now+1, frame(d.Line, int(now), d.Unit, banks[i].Serve(asked)))
		for k := range devices {
			want, _ := banks[k].At(api.Coils, place)
			if v, is := f.Coil(k, place); v != int(want) || !is {
				t.Fatalf("%d: %d", k, v)
			}
		}
	}
}

func TestMemory(t *testing.T) {
	l := slices.Clone(devices)
	f := New(l)
	l[0].Unit = 9
	b := append(frame(0, 0, 1, askOn), 77)
	asked := b[:len(b)-1]
	kept := bytes.Clone(b)
	f.Ask(0, asked, 1)
	f.Ask(0, asked, 1)
	if !bytes.Equal(b, kept) {
		t.Error(b)
	}
	asked[0] = 0
	got := f.Due(0, 2)
	got[0][0] = 99
	if !bytes.Equal(got[1], kept[:len(asked)]) {
		t.Error(got)
	}
}
