package store

import (
	"bytes"
	"slices"

	"watchkeeper/api"
)

const (
	latest  = 2 * api.MaxClock // a bypass may end that much behind the last time
	six     = 6
	isSet   = 1
	isFirst = 2
)

func isTime(at int64) bool { return at >= 0 && at <= latest }

func latchRight(x api.Latch) bool {
	if !x.Set {
		return x == api.Latch{}
	}
	return isTime(x.At)
}

func noteRight(n api.Note) bool {
	return n.Kind >= api.NoteTrip && n.Kind <= api.NoteFree && n.Who >= 0 && n.Who <= 255 && isTime(n.At)
}

func stateRight(x api.State) bool {
	return len(x.Causes) <= api.MaxCauses && len(x.Ends) == len(x.Causes) && len(x.Effects) <= api.MaxEffects &&
		all(x.Causes, latchRight) && all(x.Effects, latchRight) && all(x.Ends, isTime)
}

func all[T any](l []T, is func(T) bool) bool {
	return !slices.ContainsFunc(l, func(x T) bool { return !is(x) })
}

// Bytes are a record's; nothing, if it may not be.
func Bytes(x api.State, l []api.Note) []byte {
	if !stateRight(x) || len(l) > api.MaxNotes || !all(l, noteRight) {
		return nil
	}
	b := []byte{byte(len(x.Causes)), byte(len(x.Effects))}
	for _, row := range [][]api.Latch{x.Causes, x.Effects} {
		for _, latch := range row {
			b = putSix(append(b, flags(latch)), latch.At)
		}
	}
	for _, end := range x.Ends {
		b = putSix(b, end)
	}
	b = append(b, byte(len(l)))
	for _, n := range l {
		b = putSix(append(b, byte(n.Kind), byte(n.Who)), n.At)
	}
	return b
}

func flags(x api.Latch) byte {
	f := 0
	if x.Set {
		f |= isSet
	}
	if x.First {
		f |= isFirst
	}
	return byte(f)
}

// putSix puts a number of six bytes behind others, the highest first.
func putSix(b []byte, n int64) []byte {
	for i := range six {
		b = append(b, byte(n>>(8*(six-1-i))))
	}
	return b
}

// Read is what a record says; false: there is no such record.
func Read(b []byte) (api.State, []api.Note, bool) {
	r := &reader{left: b}
	causes, effects := r.number(), r.number()
	x := api.State{Causes: rows(causes, r.latch), Effects: rows(effects, r.latch), Ends: rows(causes, r.six)}
	l := rows(r.number(), r.note)
	if r.wrong || !bytes.Equal(Bytes(x, l), b) {
		return api.State{}, nil, false
	}
	return x, l, true
}

// reader takes a record's bytes, and keeps that there were too few.
type reader struct {
	left  []byte
	wrong bool
}

func (r *reader) number() int {
	if len(r.left) == 0 {
		r.wrong = true
		return 0
	}
	n := r.left[0]
	r.left = r.left[1:]
	return int(n)
}

func (r *reader) six() int64 {
	var n int64
	for range six {
		n = n<<8 | int64(r.number())
	}
	return n
}

func (r *reader) latch() api.Latch {
	f := r.number()
	return api.Latch{Set: f&isSet != 0, First: f&isFirst != 0, At: r.six()}
}

func (r *reader) note() api.Note {
	return api.Note{Kind: r.number(), Who: r.number(), At: r.six()}
}

// rows are so many things, one behind the other, each of which is read.
func rows[T any](many int, read func() T) []T {
	l := make([]T, many)
	for i := range l {
		l[i] = read()
	}
	return l
}
