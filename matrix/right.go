package matrix

import (
	"strings"

	"watchkeeper/api"
	"watchkeeper/lex"
)

const (
	places = 256 // how many places a device has of a kind
	keyLen = 16
	digits = "0123456789abcdef"
)

// Right says whether that may be a matrix.
func Right(m api.Matrix) bool {
	return timesRight(m) && keyRight(m.Key) && manyRight(m) && namesRight(m) &&
		devicesRight(m) && pointsRight(m) && causesRight(m) && effectsRight(m)
}

func timesRight(m api.Matrix) bool {
	return within(m.Retries, 0, api.MaxRetries) && within(m.Wait, 1, api.MaxTime) &&
		within(m.Back, 0, api.MaxTime) && within(m.Cycle, 1, api.MaxTime)
}

func keyRight(key string) bool {
	return len(key) == keyLen && strings.Trim(key, digits) == ""
}

func manyRight(m api.Matrix) bool {
	return len(m.Devices) <= api.MaxDevices && len(m.Points) <= api.MaxPoints &&
		len(m.Causes) <= api.MaxCauses && len(m.Effects) <= api.MaxEffects
}

func namesRight(m api.Matrix) bool {
	l := names(m)
	return all(l, lex.Word) && distinct(l, func(s string) string { return s })
}

func devicesRight(m api.Matrix) bool {
	return all(m.Devices, func(d api.Device) bool {
		return within(d.Line, 0, api.MaxLines-1) && within(d.Unit, 1, api.MaxUnit)
	}) && distinct(m.Devices, func(d api.Device) [2]int { return [2]int{d.Line, d.Unit} })
}

func pointsRight(m api.Matrix) bool {
	return all(m.Points, func(p api.Point) bool {
		return placeRight(m, p.Device, p.Place) && within(p.Trip, 0, 1) &&
			within(p.On, 0, api.MaxTime) && within(p.Off, 0, api.MaxTime)
	}) && distinct(m.Points, func(p api.Point) [2]int { return [2]int{p.Device, p.Place} })
}

func causesRight(m api.Matrix) bool {
	return all(m.Causes, func(c api.Cause) bool {
		return someOf(c.Points, api.MaxVoters, len(m.Points)) && within(c.Votes, 1, len(c.Points)) &&
			within(c.Lamp, api.LampA, api.LampF3A) && within(c.Limit, 0, api.MaxBypass)
	})
}

func effectsRight(m api.Matrix) bool {
	return all(m.Effects, func(e api.Effect) bool {
		return placeRight(m, e.Device, e.Place) && within(e.Safe, 0, 1) &&
			someOf(e.Causes, api.MaxCauses, len(m.Causes))
	}) && distinct(m.Effects, func(e api.Effect) [2]int { return [2]int{e.Device, e.Place} })
}

func placeRight(m api.Matrix, device, place int) bool {
	return within(device, 0, len(m.Devices)-1) && within(place, 0, places-1)
}

// someOf says whether l are one, or up to most, of so many things, no two of them one.
func someOf(l []int, most, many int) bool {
	return len(l) >= 1 && len(l) <= most && all(l, func(i int) bool { return within(i, 0, many-1) }) &&
		distinct(l, func(i int) int { return i })
}

func within[T int | int64](n, least, most T) bool { return n >= least && n <= most }

func all[T any](l []T, is func(T) bool) bool {
	for _, x := range l {
		if !is(x) {
			return false
		}
	}
	return true
}

// distinct says whether no two of a row are one, by what tells them.
func distinct[T any, K comparable](l []T, by func(T) K) bool {
	seen := map[K]struct{}{}
	for _, x := range l {
		seen[by(x)] = struct{}{}
	}
	return len(seen) == len(l)
}

// names are those of all, of whichever kinds.
func names(m api.Matrix) []string {
	l := deviceNames(m)
	l = append(l, pointNames(m)...)
	l = append(l, causeNames(m)...)
	return append(l, each(m.Effects, func(e api.Effect) string { return e.Name })...)
}

func deviceNames(m api.Matrix) []string {
	return each(m.Devices, func(d api.Device) string { return d.Name })
}

func pointNames(m api.Matrix) []string {
	return each(m.Points, func(p api.Point) string { return p.Name })
}

func causeNames(m api.Matrix) []string {
	return each(m.Causes, func(c api.Cause) string { return c.Name })
}

func each[T, R any](l []T, to func(T) R) []R {
	out := make([]R, 0, len(l))
	for _, x := range l {
		out = append(out, to(x))
	}
	return out
}
