package sentence_test

import (
	"slices"
	"strings"
	"testing"

	"dynpos/api"
	"dynpos/sentence"
)

func of(fields ...string) api.Sentence { return api.Sentence{Fields: fields} }

func TestValid(t *testing.T) {
	long := strings.Repeat("x", api.MaxField)
	for _, s := range []api.Sentence{of("A"), of("", ""), of(long), of(" ~"), of(make([]string, api.MaxFields)...), of("A", "")} {
		if !sentence.Valid(s) {
			t.Errorf("%q is not valid", s.Fields)
		}
	}
	for _, s := range []api.Sentence{of(), of(""), of(long + "x"), of("a$"), of("*"), of("a,b"), of("\x1f"), of("\x7f"), of("é"), of("A", "\n"), of(make([]string, api.MaxFields+1)...)} {
		if sentence.Valid(s) {
			t.Errorf("%q is valid", s.Fields)
		}
		if text, e := sentence.Format(s); text != nil || e != api.ErrSentence {
			t.Errorf("Format of %q: %q, error %d", s.Fields, text, e)
		}
	}
}

func TestSumAndFields(t *testing.T) {
	if sentence.Sum(nil) != 0 || sentence.Sum([]byte("A,1")) != 0x5c || sentence.Sum([]byte{255, 1}) != 254 {
		t.Error("Sum")
	}
	for text, want := range map[string][]string{"": {""}, ",": {"", ""}, "a,,b": {"a", "", "b"}, "abc": {"abc"}, "$*,\n": {"$*", "\n"}} {
		if got := sentence.Fields(text); !slices.Equal(got, want) {
			t.Errorf("Fields of %q: %q", text, got)
		}
	}
}

func TestFormat(t *testing.T) {
	for want, s := range map[string]api.Sentence{"$A,1*5C\r\n": of("A", "1"), "$,*2C\r\n": of("", ""), "$ *20\r\n": of(" "), "$J*4A\r\n": of("J"), "$A,m*00\r\n": of("A", "m"), "$A,l*01\r\n": of("A", "l"), "$A,}*10\r\n": of("A", "}")} {
		text, e := sentence.Format(s)
		if string(text) != want || e != api.OK {
			t.Errorf("Format of %q: %q, error %d", s.Fields, text, e)
		}
		back, e := sentence.Parse(text)
		if !slices.Equal(back.Fields, s.Fields) || e != api.OK {
			t.Errorf("Parse of %q: %q, error %d", text, back.Fields, e)
		}
	}
}

func TestFormatAtTheLimit(t *testing.T) {
	fields := slices.Repeat([]string{strings.Repeat("x", api.MaxField)}, 9)
	fields = append(fields, "12345") // 9 * 20 + 9 + 5 + 6 = 200
	text, e := sentence.Format(of(fields...))
	if len(text) != api.MaxSentence || e != api.OK {
		t.Errorf("the longest sentence: %d bytes, error %d", len(text), e)
	}
	if _, e := sentence.Parse(text); e != api.OK {
		t.Errorf("the longest sentence is not read: error %d", e)
	}
	fields[9] = "123456"
	if text, e := sentence.Format(of(fields...)); text != nil || e != api.ErrLimit {
		t.Errorf("a sentence that is too long: %q, error %d", text, e)
	}
}

func TestParseErrors(t *testing.T) {
	for text, want := range map[string]api.Errno{
		"": api.ErrSentence, "$": api.ErrSentence, "$*00\r\n": api.ErrSentence, "A,1*5C\r\n": api.ErrSentence, "$A,1*5C\r": api.ErrSentence, "$A,1*5C\n\r": api.ErrSentence, "$A,1*5c\r\n": api.ErrSentence, "$A,1*5C\n\n": api.ErrSentence, "$A,1*5C\r\r": api.ErrSentence, "$A,1*5G\r\n": api.ErrSentence, "$A,1*GC\r\n": api.ErrSentence, "$A,1*/C\r\n": api.ErrSentence, "$A,1*G0\r\n": api.ErrSentence, "$A,1+5C\r\n": api.ErrSentence,
		"$A,1*5D\r\n": api.ErrChecksum, "$A,2*5C\r\n": api.ErrChecksum, "$A$1*5C\r\n": api.ErrSentence, "$A*1*5C\r\n": api.ErrSentence, "$A\x01*00\r\n": api.ErrSentence, "$$A,1*5C\r\n": api.ErrSentence, "$A,1*5C\r\nx": api.ErrSentence,
		"$" + strings.Repeat("x", 21) + "*00\r\n": api.ErrSentence, "$" + strings.Repeat(",", 16) + "*00\r\n": api.ErrSentence,
		strings.Repeat("x", 200): api.ErrSentence, strings.Repeat("x", 201): api.ErrLimit, "$A,1*5C\r\n" + strings.Repeat(" ", 192): api.ErrLimit,
	} {
		if s, e := sentence.Parse([]byte(text)); e != want || s.Fields != nil {
			t.Errorf("Parse of %q: %q, error %d, not %d", text, s.Fields, e, want)
		}
	}
}

func TestChangedBytesAreFound(t *testing.T) {
	text, _ := sentence.Format(of("FIX", "2", "17", "100", "-50", "30"))
	for i := 1; i < len(text)-5; i++ {
		for c := range 256 {
			changed := slices.Clone(text)
			changed[i] = byte(c)
			if _, e := sentence.Parse(changed); e == api.OK && byte(c) != text[i] {
				t.Errorf("%q is read", changed)
			}
		}
	}
}
