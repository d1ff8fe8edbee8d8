// Package wire: numbers and sums as the bytes that frames and saves hold.
package wire

const (
	allOnes = 4294967295
	sumMask = 3988292384

	// SumSize is how many bytes a written sum has.
	SumSize = 4

	// Nine bytes hold 63 bits, more than any number of the document needs;
	// with a tenth the number could run over its 64 bits.
	longestVarint = 9
)

// Varint gives the varint of a number.
func Varint(n uint64) string {
	var bytes []byte
	for n >= 128 {
		bytes = append(bytes, byte(n%128+128))
		n = n / 128
	}
	bytes = append(bytes, byte(n))
	return string(bytes)
}

// ReadVarint reads the varint that begins at a place of s. It gives the number
// and the place behind the varint, or false if none of at most nine bytes
// begins there.
func ReadVarint(s string, at int) (uint64, int, bool) {
	if at < 0 || at >= len(s) {
		return 0, 0, false
	}
	rest := s[at:]
	n := uint64(0)
	unit := uint64(1)
	for i := 0; i < len(rest) && i < longestVarint; i++ {
		low := rest[i] % 128
		n = n + uint64(low)*unit
		unit = unit * 128
		if rest[i] < 128 {
			// A last byte 0 behind others adds nothing: the number has a shorter varint.
			if low == 0 && i > 0 {
				return 0, 0, false
			}
			return n, at + i + 1, true
		}
	}
	return 0, 0, false
}

// Sum gives the sum of bytes (CRC-32). It goes bit by bit, since the usual
// table of 256 words is greater than a table may be.
func Sum(s string) uint32 {
	sum := uint32(allOnes)
	for i := 0; i < len(s); i++ {
		sum = sumBits(sum ^ uint32(s[i]))
	}
	return sum ^ allOnes
}

func sumBits(sum uint32) uint32 {
	for k := 0; k < 8; k++ {
		half := sum / 2
		if sum%2 == 1 {
			half = half ^ sumMask
		}
		sum = half
	}
	return sum
}

// LowFirst gives the four bytes of a number, the lowest 8 bits first.
func LowFirst(n uint32) string {
	bytes := []byte{byte(n % 256), byte(n / 256 % 256), byte(n / 65536 % 256), byte(n / 16777216)}
	return string(bytes)
}

// SumBytes gives the sum of bytes as it is written.
func SumBytes(s string) string {
	sum := Sum(s)
	return LowFirst(sum)
}
