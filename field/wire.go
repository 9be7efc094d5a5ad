package field

import (
	"watchkeeper/api"
	"watchkeeper/mbap"
	"watchkeeper/rtu"
)

// fault is what goes wrong with what is asked next.
type fault struct {
	kind int
	n    int64
}

// answer is a frame, and when it comes.
type answer struct {
	at int64
	b  []byte
}

// wire is a line: how a frame on it is opened and made, which of its bytes turns when it is spoiled, what goes wrong, and what is on its way.
type wire struct {
	open    func(b []byte) (api.Adu, bool)
	frame   func(f api.Adu) []byte
	weak    func(b []byte) int
	faults  []fault
	answers []answer
}

func serial() wire {
	return wire{
		open: func(b []byte) (api.Adu, bool) {
			unit, pdu, err := rtu.Get(b)
			return api.Adu{Unit: unit, Pdu: pdu}, err == api.OK
		},
		frame: func(f api.Adu) []byte { return rtu.Put(f.Unit, f.Pdu) },
		weak:  func(b []byte) int { return len(b) - 1 },
	}
}

func stream() wire {
	return wire{
		open: func(b []byte) (api.Adu, bool) {
			frames, many, _ := mbap.Cut(b)
			if len(frames) != 1 || many != len(b) {
				return api.Adu{}, false
			}
			return frames[0], true
		},
		frame: mbap.Put,
		weak:  func([]byte) int { return 2 },
	}
}

// next is what goes wrong with what is asked now.
func (w *wire) next() fault {
	if len(w.faults) == 0 {
		return fault{}
	}
	f := w.faults[0]
	w.faults = w.faults[1:]
	return f
}

// send has an answer be on its way.
func (w *wire) send(f api.Adu, wrong fault, now int64) {
	if wrong.kind == api.FaultReply {
		return
	}
	a := answer{at: now + 1, b: w.frame(f)}
	switch wrong.kind {
	case api.FaultLate:
		a.at += wrong.n
	case api.FaultSpoil:
		a.b[w.weak(a.b)] ^= 1
	}
	w.answers = append(w.answers, a)
}

// due takes the answers that have come by a time.
func (w *wire) due(now int64) [][]byte {
	var come [][]byte
	var left []answer
	for _, a := range w.answers {
		if a.at <= now {
			come = append(come, a.b)
		} else {
			left = append(left, a)
		}
	}
	w.answers = left
	return come
}
