package runes

import (
	"slices"
	"strings"
	"testing"

	"drover/api"
)

// every calls do with each string of at most n pieces.
func every(pieces []string, n int, do func(string)) {
	var grow func(string, int)
	grow = func(s string, left int) {
		do(s)
		if left == 0 {
			return
		}
		for _, p := range pieces {
			grow(s+p, left-1)
		}
	}
	grow("", n)
}

// allBytes are the 256 bytes, each as a string.
func allBytes() []string {
	var l []string
	for b := range 256 {
		l = append(l, string([]byte{byte(b)}))
	}
	return l
}

// sequence is the rune that the bytes begin with and its length, worked out bit by bit; 0 where no sequence begins.
func sequence(s string) (rune, int) {
	least := []rune{0, 0, 0x80, 0x800, 0x10000}
	b := s[0]
	n, r := 0, rune(0)
	switch {
	case b < 0x80:
		n, r = 1, rune(b)
	case b>>5 == 6:
		n, r = 2, rune(b&31)
	case b>>4 == 14:
		n, r = 3, rune(b&15)
	case b>>3 == 30:
		n, r = 4, rune(b&7)
	}
	if n == 0 || n > len(s) {
		return 0, 0
	}
	for _, c := range []byte(s[1:n]) {
		if c>>6 != 2 {
			return 0, 0
		}
		r = r<<6 | rune(c&63)
	}
	if r < least[n] || r > 0x10ffff || 0xd800 <= r && r <= 0xdfff {
		return 0, 0
	}
	return r, n
}

// checkAgain is what the chapter says of Check, by sequence.
func checkAgain(s string) (int, int, api.Errno) {
	count := 0
	for i := 0; i < len(s); count++ {
		r, n := sequence(s[i:])
		if n == 0 {
			return 0, i, api.ErrBad
		}
		if r < 32 || r == 127 {
			return 0, i, api.ErrForm
		}
		i += n
	}
	return count, 0, api.OK
}

// wordsAgain is what the chapter says of Words, word by word.
func wordsAgain(s string) ([]string, int, api.Errno) {
	if _, at, e := checkAgain(s); e != api.OK {
		return nil, at, e
	}
	var words []string
	i := 0
	for i < len(s) {
		if s[i] == ' ' {
			i++
			continue
		}
		if s[i] != '"' {
			end := i
			for end < len(s) && s[end] != ' ' {
				if s[end] == '"' {
					return nil, end, api.ErrForm
				}
				end++
			}
			words = append(words, s[i:end])
			i = end
			continue
		}
		word := ""
		i++
		for i < len(s) && s[i] != '"' {
			if s[i] == '\\' {
				i++
				if i < len(s) && s[i] != '"' && s[i] != '\\' {
					return nil, i, api.ErrForm
				}
			}
			if i < len(s) {
				word += s[i : i+1]
				i++
			}
		}
		if i == len(s) {
			return nil, i, api.ErrForm
		}
		i++
		if i < len(s) && s[i] != ' ' {
			return nil, i, api.ErrForm
		}
		words = append(words, word)
	}
	return words, 0, api.OK
}

func checkOne(t *testing.T, s string, n, at int, e api.Errno) {
	t.Helper()
	if gotN, gotAt, gotE := Check(s); gotN != n || gotAt != at || gotE != e {
		t.Errorf("Check(%q) = %d, %d, %d; want %d, %d, %d", s, gotN, gotAt, gotE, n, at, e)
	}
}

func wordsOne(t *testing.T, s string, words []string, at int, e api.Errno) {
	t.Helper()
	got, gotAt, gotE := Words(s)
	if !slices.Equal(got, words) || gotAt != at || gotE != e {
		t.Errorf("Words(%q) = %q, %d, %d; want %q, %d, %d", s, got, gotAt, gotE, words, at, e)
	}
}

// P1.1: ordinary texts, and none.
func TestCheckTexts(t *testing.T) {
	for s, n := range map[string]int{
		"": 0, "a": 1, "aé": 2, " ~": 2, "a b\"c\\": 6, "αβγ": 3, "日本": 2, "😀": 1, "a\U0010ffffb": 3,
	} {
		checkOne(t, s, n, 0, api.OK)
	}
	long := strings.Repeat("é", 100000)
	checkOne(t, long, 100000, 0, api.OK)
	checkOne(t, long+"\x80", 0, 200000, api.ErrBad)
}

// P1.1: the ends of the ranges of runes.
func TestCheckRanges(t *testing.T) {
	for _, r := range []rune{32, 126, 128, 0x9f, 0x7ff, 0x800, 0xd7ff, 0xe000, 0xfeff, 0xfffc, 0xfffd, 0xfffe, 0xffff, 0x10000, 0x10fffe, 0x10ffff} {
		checkOne(t, string(r), 1, 0, api.OK)
		checkOne(t, "a"+string(r)+"b", 3, 0, api.OK)
	}
	for _, r := range []rune{0, 1, 9, 10, 13, 31, 127} {
		checkOne(t, string(r), 0, 0, api.ErrForm)
		checkOne(t, "é"+string(r)+"b", 0, 2, api.ErrForm)
	}
}

// P1.1: bytes that begin no sequence.
func TestCheckBadBytes(t *testing.T) {
	for _, s := range []string{
		"\x80", "\xbf", // what goes on, without a beginning
		"\xc0\x80", "\xc1\xbf", "\xe0\x80\x80", "\xe0\x9f\xbf", "\xf0\x80\x80\x80", "\xf0\x8f\xbf\xbf", // too long
		"\xc0\x8a", "\xe0\x80\x8a", // a rune that may not be, too long
		"\xc3", "\xe2\x82", "\xef\xbf", "\xf0\x9f\x98", "\xf4", // cut off
		"\xed\xa0\x80", "\xed\xaf\xbf", "\xed\xb0\x80", "\xed\xbf\xbf", // d800, dbff, dc00, dfff
		"\xf4\x90\x80\x80", "\xf5\x80\x80\x80", "\xf7\xbf\xbf\xbf", // behind 10ffff
		"\xf8\x88\x80\x80\x80", "\xfc\x84\x80\x80\x80\x80", "\xfe", "\xff",
	} {
		checkOne(t, s, 0, 0, api.ErrBad)
		checkOne(t, "aé"+s+"b", 0, 3, api.ErrBad)
		checkOne(t, "\ufffd"+s, 0, 3, api.ErrBad)
	}
}

// P1.1: of two faults the first one counts.
func TestCheckFirstFault(t *testing.T) {
	checkOne(t, "a\n\xff", 0, 1, api.ErrForm)
	checkOne(t, "a\xff\n", 0, 1, api.ErrBad)
	checkOne(t, "\xc3\n", 0, 0, api.ErrBad)
	checkOne(t, "\x7f\x80", 0, 0, api.ErrForm)
}

// P1.1: any bytes.
func TestCheckAnyBytes(t *testing.T) {
	compare := func(s string) {
		n, at, e := checkAgain(s)
		checkOne(t, s, n, at, e)
	}
	every(allBytes(), 2, compare)
	edges := []string{"\x1f", "a", "\x7f", "\x80", "\x8f", "\x90", "\x9f", "\xa0", "\xbd", "\xbf", "\xc0", "\xc2", "\xdf", "\xe0", "\xed", "\xef", "\xf0", "\xf4", "\xf5"}
	every(edges, 4, compare)
}

// P1.2: how many runes a name has.
func TestNameLength(t *testing.T) {
	if Name("") {
		t.Error("no runes are no name")
	}
	for _, r := range []string{"a", "α", "-"} {
		for n := range 40 {
			s := strings.Repeat(r, n)
			if Name(s) != (1 <= n && n <= 16) {
				t.Errorf("Name(%q) = %v", s, Name(s))
			}
		}
	}
	if !Name("aααααααααααααααa") || Name("aααααααααααααααaα") {
		t.Error("a name's length is told in runes")
	}
}

// P1.2: which runes a name has, each alone and within.
func TestNameRunes(t *testing.T) {
	for r := range rune(0x110000) {
		ok := strings.ContainsRune("abcdefghijklmnopqrstuvwxyz0123456789-_αβγδεζηθικλμνξοπρςστυφχψω", r)
		if Name(string(r)) != ok || Name("a"+string(r)+"9") != ok {
			t.Fatalf("rune %x: want %v", r, ok)
		}
	}
}

// P1.2: any bytes.
func TestNameAnyBytes(t *testing.T) {
	every(allBytes(), 2, func(s string) {
		ok := s != ""
		for _, b := range []byte(s) {
			ok = ok && strings.IndexByte("abcdefghijklmnopqrstuvwxyz0123456789-_", b) >= 0
		}
		if len(s) == 2 && s[0] == 0xce {
			ok = 0xb1 <= s[1] && s[1] <= 0xbf
		}
		if len(s) == 2 && s[0] == 0xcf {
			ok = 0x80 <= s[1] && s[1] <= 0x89
		}
		if Name(s) != ok {
			t.Errorf("Name(%q) = %v", s, !ok)
		}
	})
	for _, s := range []string{"node-1", "n_1", "0", "_", "-", "αβ", "ς"} {
		if !Name(s) {
			t.Errorf("Name(%q) = false", s)
		}
	}
	for _, s := range []string{"Node", "a b", " a", "a ", "a\"", "é", "a\n", "a\x00", "Α", "a\xff", "\xce", "\xc1\xa1", "\xe0\x8e\xb1", "ϊ", "ΰ", "\u1f00"} {
		if Name(s) {
			t.Errorf("Name(%q) = true", s)
		}
	}
}

// P1.3: words, and what they say.
func TestWordsSaid(t *testing.T) {
	for _, x := range []struct {
		s     string
		words []string
	}{
		{"", nil},
		{" ", nil},
		{"  ", nil},
		{"a", []string{"a"}},
		{" a ", []string{"a"}},
		{"submit 1 a", []string{"submit", "1", "a"}},
		{"a  \"b c\" \"\"", []string{"a", "b c", ""}},
		{"\"\"", []string{""}},
		{"\"\" \"\"", []string{"", ""}},
		{"\" \"", []string{" "}},
		{"a\\b \\", []string{"a\\b", "\\"}},
		{"\\\\n", []string{"\\\\n"}},
		{"\"\\\"\\\\\" x", []string{"\"\\", "x"}},
		{"\"é\\\"日\"  😀\ufffd", []string{"é\"日", "😀\ufffd"}},
		{"a\u00a0b", []string{"a\u00a0b"}},
	} {
		wordsOne(t, x.s, x.words, 0, api.OK)
	}
}

// P1.3: where no word goes on.
func TestWordsFaults(t *testing.T) {
	for s, at := range map[string]int{
		"a\"b": 1, "a\"": 1, "é\"": 2, "\\\"": 1, "x a\"": 3, // a quotation mark within a bare word
		"\"a\"b": 3, "\"\"\"": 2, "\"é\"é": 4, "\"a\"\\": 3, // right behind a quoted word
		"\"\\x\"": 2, "\"\\ \"": 2, "\"é\\é": 4, "\"\\\\\\n": 4, // behind a backslash
		"\"": 1, "\"a": 2, "\"é": 3, "\"a ": 3, "a \"": 3, "\"\\": 2, "\"\\\"": 3, "\"\\\\": 3, "\"é\\": 4, // the text ends
	} {
		wordsOne(t, s, nil, at, api.ErrForm)
		wordsOne(t, "ok \"\" "+s, nil, 6+at, api.ErrForm)
	}
}

// P1.3: Check's faults come ahead of all that words do wrong.
func TestWordsOfNoText(t *testing.T) {
	wordsOne(t, "a\"b\xff", nil, 3, api.ErrBad)
	wordsOne(t, "a\"b\n", nil, 3, api.ErrForm)
	wordsOne(t, "\"\\\xe2\x82", nil, 2, api.ErrBad)
	wordsOne(t, "a\tb", nil, 1, api.ErrForm)
	every(allBytes(), 2, func(s string) {
		words, at, e := wordsAgain(s)
		wordsOne(t, s, words, at, e)
	})
}

// P1.3: every short text, by another way of reading it.
func TestWordsEvery(t *testing.T) {
	every([]string{"a", "é", " ", "\"", "\\"}, 7, func(s string) {
		words, at, e := wordsAgain(s)
		wordsOne(t, s, words, at, e)
	})
	every([]string{"a", " ", "\"", "\\", "\n", "\xff"}, 5, func(s string) {
		words, at, e := wordsAgain(s)
		wordsOne(t, s, words, at, e)
	})
}

// P1.4: a word as it is, or in quotation marks.
func TestQuote(t *testing.T) {
	for s, want := range map[string]string{
		"": `""`, "a": "a", "é": "é", "a b": `"a b"`, " ": `" "`, `"`: `"\""`, `\`: `\`, `a\`: `a\`, `\\`: `\\`,
		`a"b`: `"a\"b"`, `a \`: `"a \\"`, `\"`: `"\\\""`, `" \`: `"\" \\"`, "\n": "\n", "\t\x00": "\t\x00", "\xff": "\xff",
		"\xff ": "\"\xff \"", "\xe2\x82\"": "\"\xe2\x82\\\"\"", "\n ": "\"\n \"", "\u00a0": "\u00a0",
	} {
		if got := Quote(s); got != want {
			t.Errorf("Quote(%q) = %q, want %q", s, got, want)
		}
	}
}

// P1.4: any bytes, byte by byte.
func TestQuoteAnyBytes(t *testing.T) {
	every(allBytes(), 2, func(s string) {
		want := s
		if s == "" || strings.Contains(s, " ") || strings.Contains(s, "\"") {
			want = "\"" + strings.ReplaceAll(strings.ReplaceAll(s, "\\", "\\\\"), "\"", "\\\"") + "\""
		}
		if got := Quote(s); got != want {
			t.Errorf("Quote(%q) = %q, want %q", s, got, want)
		}
	})
}

// P1.4: Words of a quoted text is that text alone.
func TestQuoteThenWords(t *testing.T) {
	every([]string{"a", "é", " ", "\"", "\\"}, 6, func(s string) {
		wordsOne(t, Quote(s), []string{s}, 0, api.OK)
		wordsOne(t, "x "+Quote(s)+"  "+Quote(s), []string{"x", s, s}, 0, api.OK)
	})
}

// R5, R7: an answer is new memory, and nothing is kept from call to call.
func TestNothingKept(t *testing.T) {
	s := "a \"b c\" d"
	first, _, _ := Words(s)
	for i := range first {
		first[i] = "changed"
	}
	wordsOne(t, "\"broken", nil, 7, api.ErrForm)
	wordsOne(t, s, []string{"a", "b c", "d"}, 0, api.OK)
	checkOne(t, "a\n", 0, 1, api.ErrForm)
	checkOne(t, s, 9, 0, api.OK)
}
