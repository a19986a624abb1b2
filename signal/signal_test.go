package signal_test

import (
	"math"
	"slices"
	"strings"
	"testing"

	"dynpos/api"
	"dynpos/signal"
)

// edges has for each kind the least and the greatest valid signal, and its word.
var edges = []struct {
	word        string
	least, most api.Signal
}{
	{"FIX", api.Signal{Kind: 1, A: -100000000, B: -100000000, C: 1}, api.Signal{Kind: 1, Source: 99, Time: 1 << 31, A: 100000000, B: 100000000, C: 100000}},
	{"HDG", api.Signal{Kind: 2}, api.Signal{Kind: 2, Source: 99, Time: 1 << 31, A: 3599}},
	{"WND", api.Signal{Kind: 3}, api.Signal{Kind: 3, Source: 99, Time: 1 << 31, A: 3599, B: 10000}},
	{"THR", api.Signal{Kind: 4}, api.Signal{Kind: 4, Source: 99, Time: 1 << 31, A: 5000, B: 3599}},
	{"BRK", api.Signal{Kind: 5}, api.Signal{Kind: 5, Source: 99, Time: 1 << 31, A: 1}},
	{"GEN", api.Signal{Kind: 6}, api.Signal{Kind: 6, Source: 99, Time: 1 << 31, A: 50000, B: 6000, C: 3599}},
}

// numbers returns pointers to the numbers of a signal.
func numbers(s *api.Signal) []*int { return []*int{&s.Source, &s.Time, &s.A, &s.B, &s.C} }

func TestEdgesAreValid(t *testing.T) {
	for _, x := range edges {
		for _, s := range []api.Signal{x.least, x.most} {
			if !signal.Valid(s) {
				t.Errorf("%v is not valid", s)
			}
			w, e := signal.Write(s)
			if e != api.OK || w.Fields[0] != x.word {
				t.Errorf("Write of %v: %q, error %d", s, w.Fields, e)
			}
			if back, e := signal.Read(w); back != s || e != api.OK {
				t.Errorf("Read of %q: %v, error %d", w.Fields, back, e)
			}
		}
	}
}

func TestBeyondTheEdges(t *testing.T) {
	for _, x := range edges {
		for i := range 5 {
			low, high := x.least, x.most
			*numbers(&low)[i]--
			*numbers(&high)[i]++
			for _, s := range []api.Signal{low, high} {
				if w, e := signal.Write(s); signal.Valid(s) || e != api.ErrSignal || w.Fields != nil {
					t.Errorf("%v is valid", s)
				}
			}
		}
	}
	for _, kind := range []int{-1, 0, 7, math.MinInt, math.MaxInt} {
		if signal.Valid(api.Signal{Kind: kind}) {
			t.Errorf("the kind %d is valid", kind)
		}
	}
}

func TestNumber(t *testing.T) {
	for text, want := range map[string]int{"0": 0, "5": 5, "-5": -5, "10": 10, "9999999999": 9999999999, "-9999999999": -9999999999, "1234567890": 1234567890} {
		if n, ok := signal.Number(text); n != want || !ok {
			t.Errorf("Number of %q: %d, %v", text, n, ok)
		}
	}
	for _, text := range []string{"", "-", "-0", "00", "01", "-01", "+1", "12345678901", "-12345678901", "1a", " 1", "1 ", "--1", "1-", "0x1", "٣"} {
		if n, ok := signal.Number(text); n != 0 || ok {
			t.Errorf("Number of %q: %d, %v", text, n, ok)
		}
	}
}

func TestText(t *testing.T) {
	for n, want := range map[int]string{0: "0", -7: "-7", math.MinInt: "-9223372036854775808", math.MaxInt: "9223372036854775807"} {
		if signal.Text(n) != want {
			t.Errorf("Text of %d: %q", n, signal.Text(n))
		}
	}
}

func TestWriteAndRead(t *testing.T) {
	fix := api.Signal{Kind: api.SignalFix, Source: 2, Time: 17, A: 100, B: -50, C: 30}
	fields := []string{"FIX", "2", "17", "100", "-50", "30"}
	if w, e := signal.Write(fix); !slices.Equal(w.Fields, fields) || e != api.OK {
		t.Errorf("Write: %q, error %d", w.Fields, e)
	}
	if s, e := signal.Read(api.Sentence{Fields: fields}); s != fix || e != api.OK {
		t.Errorf("Read: %v, error %d", s, e)
	}
}

func TestFieldsOfAllKinds(t *testing.T) {
	for _, x := range []struct {
		s    api.Signal
		want string
	}{
		{api.Signal{Kind: 1, Source: 1, Time: 2, A: 3, B: 4, C: 5}, "FIX,1,2,3,4,5"}, {api.Signal{Kind: 2, Source: 1, Time: 2, A: 3}, "HDG,1,2,3"}, {api.Signal{Kind: 3, Source: 1, Time: 2, A: 3, B: 4}, "WND,1,2,3,4"}, {api.Signal{Kind: 4, Source: 1, Time: 2, A: 3, B: 4}, "THR,1,2,3,4"}, {api.Signal{Kind: 5, Source: 1, Time: 2, A: 1}, "BRK,1,2,1"}, {api.Signal{Kind: 6, Source: 1, Time: 2, A: 3, B: 4, C: 5}, "GEN,1,2,3,4,5"},
	} {
		w, e := signal.Write(x.s)
		if got := strings.Join(w.Fields, ","); got != x.want || e != api.OK {
			t.Errorf("Write of %v: %s, error %d", x.s, got, e)
		}
		if s, e := signal.Read(api.Sentence{Fields: strings.Split(x.want, ",")}); s != x.s || e != api.OK {
			t.Errorf("Read of %s: %v, error %d", x.want, s, e)
		}
	}
}

func TestReadErrors(t *testing.T) {
	for _, text := range []string{"", "FIX", "FIX,2,17,100,-50", "FIX,2,17,100,-50,30,1", "FIX,2,17,100,-50,0", "FIX,02,17,100,-50,30", "fix,2,17,100,-50,30", "XXX,1,1,1", "HDG,1,1,3600", "HDG,1,1,-0", "HDG,1,1,5,0", "HDG,1,1", "BRK,1,1,2", "BRK,1,1,", ",1,1,1", "GEN,1,1,1,1", "WND,100,1,1,1", "THR,1,-1,1,1"} {
		if s, e := signal.Read(api.Sentence{Fields: strings.Split(text, ",")}); s != (api.Signal{}) || e != api.ErrSignal {
			t.Errorf("Read of %q: %v, error %d", text, s, e)
		}
	}
	if _, e := signal.Read(api.Sentence{}); e != api.ErrSignal {
		t.Error("a sentence without fields is read")
	}
}
