package stream_test

import (
	"fmt"
	"math/rand"
	"strings"
	"testing"

	"dynpos/api"
	"dynpos/sentence"
	"dynpos/stream"
)

const one, two = "$A,1*5C\r\n", "$J*4A\r\n"

func show(rest string, l []api.Sentence, lost int) string {
	return fmt.Sprintf("%q %v %d", rest, l, lost)
}

func TestFeed(t *testing.T) {
	a, j := api.Sentence{Fields: []string{"A", "1"}}, api.Sentence{Fields: []string{"J"}}
	long := "$" + strings.Repeat("x", api.MaxSentence-2)
	for _, x := range []struct {
		rest, bytes, left string
		sentences         []api.Sentence
		lost              int
	}{
		{"", "", "", nil, 0}, {"", "xx" + one + "$A", "$A", []api.Sentence{a}, 2}, {"", one + "\n" + two, "", []api.Sentence{a, j}, 1},
		{"", "$A,1$J*4A\r\n", "", []api.Sentence{j}, 4}, {"", "$A,1*5D\r\n", "", nil, 9}, {"$A,1", "*5C\r\n", "", []api.Sentence{a}, 0}, {"$A,1", "*5D\r\nz", "", nil, 6},
		{"$A,1", "x$", "$", nil, 1}, {"$A,1", "$J", "$J", nil, 0}, {"$A\nB", "x", "", nil, 1}, {"x$A", "*00", "", nil, 3}, {"$$", "J*4A\r\n", "", nil, 6}, {"$A", "", "$A", nil, 0}, {"$A\n", "", "", nil, 0},
		{"", long, long, nil, 0}, {"", long + "x", "", nil, 200}, {long, "x", "", nil, 1}, {long, "\n", "", nil, 1}, {long + "x", "yz", "", nil, 2}, {long, "xy" + two, "", []api.Sentence{j}, 2}, {"", "\n\n", "", nil, 2},
	} {
		f, l, lost := stream.Feed(api.Framer{Rest: []byte(x.rest)}, []byte(x.bytes))
		if got, want := show(string(f.Rest), l, lost), show(x.left, x.sentences, x.lost); got != want {
			t.Errorf("%q and %q: %s, not %s", x.rest, x.bytes, got, want)
		}
	}
}

func TestLongestSentence(t *testing.T) {
	s := api.Sentence{Fields: strings.Split(strings.Repeat("xxxxxxxxxxxxxxxxxxxx,", 9)+"12345", ",")}
	text, _ := sentence.Format(s)
	if l, lost := stream.All(text); len(text) != api.MaxSentence || len(l) != 1 || lost != 0 {
		t.Errorf("%d bytes: %v, %d lost", len(text), l, lost)
	}
}

func TestAllAndIdle(t *testing.T) {
	if l, lost := stream.All([]byte("x" + one + "$A")); len(l) != 1 || lost != 1 {
		t.Errorf("All: %v, %d", l, lost)
	}
	for rest, want := range map[string]bool{"": true, "$": false, "$A": false, "A": true, "$A$": true, "$A\n": true, "$\nA": true, "$" + strings.Repeat("x", 198): false, "$" + strings.Repeat("x", 199): true} {
		if stream.Idle(api.Framer{Rest: []byte(rest)}) != want {
			t.Errorf("Idle of %q: %v", rest, !want)
		}
	}
}

func TestPiecesDoNotMatter(t *testing.T) {
	r := rand.New(rand.NewSource(1))
	parts := []string{one, two, "$", "x", "\n", "*5C\r\n", "$A,1", strings.Repeat("y", 150)}
	for range 500 {
		text := ""
		for range r.Intn(12) {
			text += parts[r.Intn(len(parts))]
		}
		whole, _ := stream.All([]byte(text))
		f, pieces := api.Framer{}, []api.Sentence(nil)
		for rest := []byte(text); len(rest) > 0; {
			n := 1 + r.Intn(len(rest))
			var l []api.Sentence
			f, l, _ = stream.Feed(f, rest[:n])
			pieces = append(pieces, l...)
			rest = rest[n:]
			if len(f.Rest) >= api.MaxSentence {
				t.Fatal("too much is kept")
			}
		}
		if fmt.Sprint(whole) != fmt.Sprint(pieces) {
			t.Fatalf("%q: %v in one piece, %v in several", text, whole, pieces)
		}
	}
}

func TestArgumentsStay(t *testing.T) {
	rest := append(make([]byte, 0, 100), "$A,1"...)
	f, _, _ := stream.Feed(api.Framer{Rest: rest}, []byte("*5"))
	stream.Feed(api.Framer{Rest: rest}, []byte("xx"))
	if string(f.Rest) != "$A,1*5" || string(rest) != "$A,1" {
		t.Errorf("%q, %q", f.Rest, rest)
	}
}
