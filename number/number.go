// Package number: numbers as four bytes, the lowest first.
package number

// Size is how many bytes a number has.
const Size = 4

// Append appends the bytes of a number.
func Append(b []byte, n uint32) []byte {
	return append(b, byte(n), byte(n>>8), byte(n>>16), byte(n>>24))
}

// At reads what Append wrote, at the beginning of at least four bytes.
func At[B string | []byte](b B) uint32 {
	return uint32(b[0]) | uint32(b[1])<<8 | uint32(b[2])<<16 | uint32(b[3])<<24
}
