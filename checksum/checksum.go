// Package checksum sums up bytes such that a change is noticed.
package checksum

// Empty is the sum of no bytes.
const Empty uint64 = 14695981039346656037

// prime is what a sum is multiplied with for each byte.
const prime uint64 = 1099511628211

// Add returns the sum of bytes and then those of a text, if sum is that of the bytes.
func Add(sum uint64, text string) uint64 {
	for i := range len(text) {
		sum = (sum ^ uint64(text[i])) * prime
	}
	return sum
}
