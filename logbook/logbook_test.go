package logbook_test

import (
	"fmt"
	"math"
	"math/rand"
	"strings"
	"testing"

	"dynpos/api"
	"dynpos/logbook"
)

func same(t *testing.T, name string, got, want any) {
	t.Helper()
	if g, w := fmt.Sprint(got), fmt.Sprint(want); g != w {
		t.Errorf("%s: %s, not %s", name, g, w)
	}
}

func entry(time, kind int, words ...int) api.Entry {
	return api.Entry{Time: time, Kind: kind, Words: words}
}

// book returns the book of some entries.
func book(t *testing.T, l ...api.Entry) api.Book {
	t.Helper()
	b := logbook.New()
	for _, x := range l {
		next, e := logbook.Append(b, x)
		if e != api.OK {
			t.Fatalf("%v: error %d", x, e)
		}
		b = next
	}
	return b
}

func TestValid(t *testing.T) {
	for kind, n := range map[int]int{1: 1, 2: 1, 3: 1, 4: 2, 5: 2, 6: 4, 7: 2, 8: 3} {
		for count := range 6 {
			same(t, fmt.Sprint(kind, count), logbook.Valid(entry(0, kind, make([]int, count)...)), count == n)
		}
	}
	same(t, "edges", []bool{logbook.Valid(entry(api.MaxTime, 5, -1000000000, 1000000000)), logbook.Valid(entry(-1, 1, 0)), logbook.Valid(entry(api.MaxTime+1, 1, 0)), logbook.Valid(entry(0, 0)), logbook.Valid(entry(0, 9)), logbook.Valid(entry(0, -1)), logbook.Valid(entry(0, 1, 1000000001)), logbook.Valid(entry(0, 5, 0, -1000000001)), logbook.Valid(entry(0, math.MinInt, 0))}, []bool{true, false, false, false, false, false, false, false, false})
}

func TestLine(t *testing.T) {
	for want, x := range map[string]api.Entry{"7 6 1 -2 0 14\n": entry(7, 6, 1, -2, 0, 14), "0 1 3\n": entry(0, 1, 3), "2147483648 5 -1000000000 1000000000\n": entry(api.MaxTime, 5, -1000000000, 1000000000)} {
		got, e := logbook.Line(x)
		same(t, want, []any{got, e}, []any{want, api.OK})
	}
	got, e := logbook.Line(entry(0, 1))
	same(t, "a wrong entry", []any{got, e}, []any{"", api.ErrBook})
}

func TestNewAndCheck(t *testing.T) {
	same(t, "New", logbook.New(), api.Book{Sum: 14695981039346656037})
	same(t, "Check", logbook.Check(logbook.New()), api.OK)
	b := book(t, entry(3, 1, 2), entry(3, 2, 1), entry(5, 1, 3))
	same(t, "Check", logbook.Check(b), api.OK)
	one := book(t, entry(0, 1, 3))
	same(t, "the sum of 0 1 3", one.Sum, uint64(sum("0 1 3\n")))
	for i, change := range []func(b *api.Book){
		func(b *api.Book) { b.Sum++ }, func(b *api.Book) { b.Entries = b.Entries[1:] }, func(b *api.Book) { b.Entries[0].Words = []int{3} }, func(b *api.Book) { b.Entries[0].Kind = 9 }, func(b *api.Book) {
			b.Entries[0], b.Entries[2] = b.Entries[2], b.Entries[0]
			b.Sum = sum("5 1 3\n3 2 1\n3 1 2\n")
		}, func(b *api.Book) { *b = api.Book{} },
	} {
		w := book(t, entry(3, 1, 2), entry(3, 2, 1), entry(5, 1, 3))
		change(&w)
		name := fmt.Sprint(i)
		same(t, name, logbook.Check(w), api.ErrBook)
		next, e := logbook.Append(w, entry(-1, 0))
		text, f := logbook.Text(w)
		n, ok := logbook.At(w, 1, 9)
		spans, g := logbook.Spans(w, 9, 0, -1)
		worse, h := logbook.Degraded(w, 0, -1)
		same(t, name, []any{next, e, text, f, n, ok, spans, g, worse, h}, []any{api.Book{}, api.ErrBook, "", api.ErrBook, 0, false, []int{}, api.ErrBook, []int{}, api.ErrBook})
	}
}

// sum is the checksum by its definition.
func sum(text string) uint64 {
	s := uint64(14695981039346656037)
	for _, x := range []byte(text) {
		s = (s ^ uint64(x)) * 1099511628211
	}
	return s
}

func TestAppend(t *testing.T) {
	b := book(t, entry(3, 1, 2))
	next, e := logbook.Append(b, entry(3, 4, 1, 0))
	same(t, "Append", []any{next, e}, []any{api.Book{Entries: []api.Entry{entry(3, 1, 2), entry(3, 4, 1, 0)}, Sum: sum("3 1 2\n3 4 1 0\n")}, api.OK})
	for _, x := range []struct {
		e    api.Entry
		want api.Errno
	}{{entry(2, 4, 1, 0), api.ErrTime}, {entry(2, 4, 1), api.ErrBook}, {entry(-1, 1, 1), api.ErrBook}} {
		next, e := logbook.Append(b, x.e)
		same(t, fmt.Sprint(x), []any{next, e}, []any{api.Book{}, x.want})
	}
	full := logbook.New()
	for range api.MaxEntries {
		full, _ = logbook.Append(full, entry(9, 1, 1))
	}
	same(t, "200 entries", logbook.Check(full), api.OK)
	_, e1 := logbook.Append(full, entry(9, 1, 1))
	_, e2 := logbook.Append(full, entry(8, 1, 1))
	full.Entries, full.Sum = append(full.Entries, entry(9, 1, 1)), sum(strings.Repeat("9 1 1\n", 201))
	same(t, "one more", []api.Errno{e1, e2, logbook.Check(full)}, []api.Errno{api.ErrLimit, api.ErrTime, api.ErrBook})
}

func TestAppendChangesNothing(t *testing.T) {
	b := book(t, entry(1, 1, 1), entry(2, 1, 2), entry(3, 1, 3))
	x, _ := logbook.Append(b, entry(4, 1, 1))
	y, _ := logbook.Append(b, entry(5, 1, 2))
	same(t, "two books", []api.Errno{logbook.Check(x), logbook.Check(y), logbook.Check(b)}, []api.Errno{0, 0, 0})
}

func TestText(t *testing.T) {
	got, e := logbook.Text(logbook.New())
	same(t, "New", []any{got, e}, []any{"= 14695981039346656037\n", api.OK})
	b := book(t, entry(3, 1, 2), entry(5, 8, 0, -4, 9))
	got, e = logbook.Text(b)
	same(t, "Text", []any{got, e}, []any{fmt.Sprintf("3 1 2\n5 8 0 -4 9\n= %d\n", sum("3 1 2\n5 8 0 -4 9\n")), api.OK})
}

func TestRead(t *testing.T) {
	last := func(lines string) string { return fmt.Sprintf("= %d\n", sum(lines)) }
	for _, x := range []struct {
		text string
		n    int
		l    []api.Entry
	}{
		{"", 0, nil}, {last(""), 23, nil}, {"3 1 2\n", 6, []api.Entry{entry(3, 1, 2)}}, {"3 1 2", 0, nil}, {"3 1 2\n5 1 3", 6, []api.Entry{entry(3, 1, 2)}}, {"3 1 2\n2 1 3\n", 6, []api.Entry{entry(3, 1, 2)}}, {"3 1 2\n" + last("3 1 2\n"), 6 + len(last("3 1 2\n")), []api.Entry{entry(3, 1, 2)}}, {"3 1 2\n" + last("3 1 2\n") + "4 1 2\n", 6 + len(last("3 1 2\n")), []api.Entry{entry(3, 1, 2)}}, {"3 1 2\n" + last(""), 6, []api.Entry{entry(3, 1, 2)}}, {"3 1 2\n\n" + last("3 1 2\n"), 6, []api.Entry{entry(3, 1, 2)}}, {"3 1 2\n= 1", 6, []api.Entry{entry(3, 1, 2)}},
		{"03 1 2\n", 0, nil}, {"+3 1 2\n", 0, nil}, {"3  1 2\n", 0, nil}, {" 3 1 2\n", 0, nil}, {"3 1 2 \n", 0, nil}, {"3 1 -0\n", 0, nil}, {"3 1 2\r\n", 0, nil}, {"3 1\n", 0, nil}, {"3\n", 0, nil}, {"\n", 0, nil}, {"3 9 1\n", 0, nil}, {"3 1 99999999999999999999\n", 0, nil}, {"3 1 x\n", 0, nil}, {"3 1 1_0\n", 0, nil}, {"2147483649 1 1\n", 0, nil},
	} {
		b, n := logbook.Read(x.text)
		same(t, fmt.Sprintf("%q", x.text), []any{b, n}, []any{book(t, x.l...), x.n})
	}
	b, n := logbook.Read(strings.Repeat("9 1 1\n", 300))
	same(t, "too many", []int{len(b.Entries), n}, []int{200, 1200})
}

func TestReadOfText(t *testing.T) {
	r := rand.New(rand.NewSource(24))
	for range 60 {
		b, time := logbook.New(), 0
		for range r.Intn(12) {
			time += r.Intn(3)
			kind := 1 + r.Intn(8)
			words := make([]int, []int{0, 1, 1, 1, 2, 2, 4, 2, 3}[kind])
			for i := range words {
				words[i] = r.Intn(2001) - 1000
			}
			b, _ = logbook.Append(b, entry(time, kind, words...))
		}
		text, _ := logbook.Text(b)
		back, n := logbook.Read(text)
		same(t, text, []any{back, n}, []any{b, len(text)})
		cut := r.Intn(len(text) + 1)
		part, _ := logbook.Read(text[:cut])
		same(t, text[:cut], part.Entries, b.Entries[:len(part.Entries)])
		same(t, text[:cut], logbook.Check(part), api.OK)
	}
}

func TestAt(t *testing.T) {
	b := book(t, entry(3, 1, 2), entry(5, 1, 3), entry(5, 1, 1), entry(5, 2, 2), entry(6, 4, 7, 8), entry(9, 3, 4))
	for _, x := range []struct {
		kind, time, want int
		ok               bool
	}{{1, 2, 0, false}, {1, 3, 2, true}, {1, 4, 2, true}, {1, 5, 1, true}, {1, math.MaxInt, 1, true}, {2, 99, 2, true}, {3, 8, 0, false}, {3, 9, 4, true}, {4, 99, 0, false}, {0, 99, 0, false}, {1, -5, 0, false}} {
		n, ok := logbook.At(b, x.kind, x.time)
		same(t, fmt.Sprint(x), []any{n, ok}, []any{x.want, x.ok})
	}
}

func TestSpans(t *testing.T) {
	b := book(t, entry(3, 1, 2), entry(5, 1, 3), entry(5, 1, 1), entry(5, 2, 2), entry(7, 1, 1), entry(9, 1, 3))
	span := func(from, to, value int) api.Span { return api.Span{From: from, To: to, Value: value} }
	for _, x := range []struct {
		kind, from, to int
		want           []api.Span
	}{
		{1, 0, 12, []api.Span{span(0, 3, 0), span(3, 5, 2), span(5, 9, 1), span(9, 12, 3)}}, {1, 3, 9, []api.Span{span(3, 5, 2), span(5, 9, 1)}}, {1, 4, 10, []api.Span{span(4, 5, 2), span(5, 9, 1), span(9, 10, 3)}}, {1, 5, 5, nil}, {1, 0, api.MaxTime, []api.Span{span(0, 3, 0), span(3, 5, 2), span(5, 9, 1), span(9, api.MaxTime, 3)}}, {2, 0, 6, []api.Span{span(0, 5, 0), span(5, 6, 2)}}, {3, 4, 6, []api.Span{span(4, 6, 0)}},
	} {
		got, e := logbook.Spans(b, x.kind, x.from, x.to)
		same(t, fmt.Sprint(x), []any{got, e}, []any{append([]api.Span{}, x.want...), api.OK})
	}
	for _, x := range [][3]int{{0, 0, 5}, {4, 0, 5}, {1, -1, 5}, {1, 6, 5}, {1, 0, api.MaxTime + 1}} {
		got, e := logbook.Spans(b, x[0], x[1], x[2])
		same(t, fmt.Sprint(x), []any{got, e}, []any{[]int{}, api.ErrRange})
		if x[0] == 1 {
			got, e := logbook.Degraded(b, x[1], x[2])
			same(t, fmt.Sprint(x), []any{got, e}, []any{[]int{}, api.ErrRange})
		}
	}
	got, e := logbook.Degraded(b, 0, 12)
	same(t, "Degraded", []any{got, e}, []any{[]api.Span{span(0, 3, 0), span(3, 5, 2), span(5, 9, 1)}, api.OK})
	got, e = logbook.Degraded(book(t, entry(0, 1, 3), entry(5, 1, 2)), 0, 10)
	same(t, "the example", []any{got, e}, []any{[]api.Span{span(5, 10, 2)}, api.OK})
	got, e = logbook.Spans(book(t, entry(0, 1, 3), entry(5, 1, 0), entry(7, 1, 3)), 1, 0, 9)
	same(t, "a value of 0", []any{got, e}, []any{[]api.Span{span(0, 5, 3), span(5, 7, 0), span(7, 9, 3)}, api.OK})
}

func TestSpansAndAt(t *testing.T) {
	r := rand.New(rand.NewSource(25))
	for range 200 {
		b, time := logbook.New(), 0
		for range r.Intn(10) {
			time += r.Intn(4)
			b, _ = logbook.Append(b, entry(time, 1, r.Intn(4)))
		}
		from := r.Intn(15)
		to := from + r.Intn(20)
		spans, _ := logbook.Spans(b, 1, from, to)
		at := from
		for i, s := range spans {
			if s.From != at || s.To <= s.From || i > 0 && s.Value == spans[i-1].Value {
				t.Fatalf("%v from %d to %d: %v", b, from, to, spans)
			}
			for ; at < s.To; at++ {
				if value, _ := logbook.At(b, 1, at); value != s.Value {
					t.Fatalf("%v at %d: %d, not %d", b, at, value, s.Value)
				}
			}
		}
		if at != to {
			t.Fatalf("%v from %d to %d: %v", b, from, to, spans)
		}
	}
}
