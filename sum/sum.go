// Package sum: the sum of some bytes.
package sum

const modulus = 255

// Of tells the sum of data. Both counts are taken modulo 255 at each step, so that no length of data is too great for an int.
func Of(data []byte) int {
	first := 0
	second := 0
	for _, b := range data {
		first = (first + int(b)) % modulus
		second = (second + first) % modulus
	}
	return first + 256*second
}
