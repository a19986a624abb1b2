// Package word says which names may be used.
package word

import "dynpos/api"

// Valid reports whether a text is a word: a letter a to z, and further letters, digits or -, not too many.
func Valid(text string) bool {
	if len(text) < 1 || len(text) > api.MaxName || !letter(text[0]) {
		return false
	}
	for i := range len(text) {
		if c := text[i]; !letter(c) && (c < '0' || c > '9') && c != '-' {
			return false
		}
	}
	return true
}

// letter reports whether a byte is a letter a to z.
func letter(c byte) bool {
	return c >= 'a' && c <= 'z'
}
