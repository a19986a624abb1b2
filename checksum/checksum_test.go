package checksum_test

import (
	"hash/fnv"
	"strings"
	"testing"

	"dynpos/checksum"
)

func TestAdd(t *testing.T) {
	for _, text := range []string{"", "a", "0 1 2\n", "\x00\xff", strings.Repeat("dynpos", 100)} {
		h := fnv.New64a()
		h.Write([]byte(text))
		if got := checksum.Add(checksum.Empty, text); got != h.Sum64() {
			t.Errorf("%q: %d, not %d", text, got, h.Sum64())
		}
		if checksum.Add(checksum.Add(checksum.Empty, text), "x") != checksum.Add(checksum.Empty, text+"x") {
			t.Errorf("%q: the sum of two parts is not that of the whole", text)
		}
	}
}
