package line

import (
	"watchkeeper/api"
	"watchkeeper/mbap"
	"watchkeeper/rtu"
)

// heard is what may be an answer: of which unit, and its bytes.
type heard struct {
	unit byte
	pdu  []byte
}

// transport is how what is asked goes on a line, and how what comes is told.
type transport interface {
	frame(unit byte, pdu []byte) []byte
	open(b []byte) []heard
}

// serial is a line on which frames stand between silences.
type serial struct{}

func (serial) frame(unit byte, pdu []byte) []byte { return rtu.Put(unit, pdu) }

func (serial) open(b []byte) []heard {
	unit, pdu, err := rtu.Get(b)
	if err != api.OK {
		return nil
	}
	return []heard{{unit, pdu}}
}

// stream is one on which frames stand one behind the other, with numbers.
type stream struct {
	number uint16
	came   []byte
}

func (s *stream) frame(unit byte, pdu []byte) []byte {
	s.number++
	return mbap.Put(api.Adu{Id: s.number, Unit: unit, Pdu: pdu})
}

func (s *stream) open(b []byte) []heard {
	s.came = append(s.came, b...)
	frames, many, err := mbap.Cut(s.came)
	s.came = append([]byte(nil), s.came[many:]...)
	if err != api.OK {
		s.came = nil
	}
	var l []heard
	for _, f := range frames {
		if f.Id == s.number {
			l = append(l, heard{f.Unit, f.Pdu})
		}
	}
	return l
}
