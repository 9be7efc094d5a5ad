// Package crc is layer 1, sums of two bytes: see shared/doc/01-crc.md.
package crc

const (
	start = 0xffff
	poly  = 0xa001
	size  = 2
)

// nibbles has for each four bits what they xor into a sum that is moved right by four. A table of whole bytes would cost more to make than it saves on a frame.
func nibbles() [16]uint16 {
	var t [16]uint16
	for i := range t {
		v := uint16(i)
		for range 4 {
			fell := v & 1
			v >>= 1
			if fell == 1 {
				v ^= poly
			}
		}
		t[i] = v
	}
	return t
}

// Sum is the sum of bytes.
func Sum(b []byte) uint16 {
	t := nibbles()
	sum := uint16(start)
	for _, x := range b {
		sum ^= uint16(x)
		for range 2 {
			sum = sum>>4 ^ t[sum&15]
		}
	}
	return sum
}

// Seal is bytes with their sum behind them, the lower byte first.
func Seal(b []byte) []byte {
	sum := Sum(b)
	out := make([]byte, 0, len(b)+size)
	out = append(out, b...)
	return append(out, byte(sum), byte(sum>>8))
}

// Open is what was sealed; false: b is not sealed.
func Open(b []byte) ([]byte, bool) {
	n := len(b) - size
	if n < 0 {
		return nil, false
	}
	sum := Sum(b[:n])
	if b[n] != byte(sum) || b[n+1] != byte(sum>>8) {
		return nil, false
	}
	out := make([]byte, n)
	copy(out, b)
	return out, true
}
