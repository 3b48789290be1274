// Package wire has what the journal and the configuration share: the check, and numbers in bytes.
package wire

// NumberBytes is how many bytes a number of 32 bits has.
const NumberBytes = 4

const (
	checkStart = 4294967295
	checkTurn  = 3988292384
)

// Check is the check of some bytes.
func Check(bytes []byte) uint32 {
	sum := uint32(checkStart)
	for _, b := range bytes {
		sum = shifted(sum ^ uint32(b))
	}
	return ^sum
}

// shifted is a check when the eight bits of a byte have gone through it.
func shifted(sum uint32) uint32 {
	for range 8 {
		low := sum & 1
		sum >>= 1
		if low == 1 {
			sum ^= checkTurn
		}
	}
	return sum
}

// Append lays a number behind a list, the highest byte first.
func Append(list []byte, n uint32) []byte {
	return append(list, byte(n>>24), byte(n>>16), byte(n>>8), byte(n))
}

// Number is the number in four bytes, the highest one first.
func Number(bytes []byte) uint32 {
	n := uint32(0)
	for _, b := range bytes {
		n = n<<8 | uint32(b)
	}
	return n
}
