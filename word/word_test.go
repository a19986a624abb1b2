package word_test

import (
	"testing"

	"dynpos/word"
)

func TestValid(t *testing.T) {
	for text, want := range map[string]bool{"a": true, "z9-": true, "a0": true, "abcdefghijkl": true, "abcdefghijklm": false, "": false, "9a": false, "-a": false, "aB": false, "A": false, "a b": false, "aé": false, "a_": false, "a\n": false, "a`": false, "a{": false, "a/": false, "a:": false} {
		if word.Valid(text) != want {
			t.Errorf("%q: %v", text, !want)
		}
	}
}
