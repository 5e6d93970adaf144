// Package runes is layer 1: texts as runes, names, words and quotation marks. See shared/doc/01-runes.md.
package runes

import (
	"strings"
	"unicode/utf8"

	"drover/api"
)

// The places within a text at which a rune can stand.
const (
	between = iota // ahead of a word
	bare           // within a bare word
	quoted         // within a quoted word
	escaped        // behind a backslash of a quoted word
	closed         // right behind a quoted word
	nowhere        // where no word goes on
)

// Check is the number of runes of a text, or the place and the error of its first fault.
func Check(s string) (int, int, api.Errno) {
	count := 0
	for i, r := range s {
		if r == utf8.RuneError && !strings.HasPrefix(s[i:], string(utf8.RuneError)) {
			// The range says this rune of broken bytes too: only the bytes tell which it was.
			return 0, i, api.ErrBad
		}
		if r < 32 || r == 127 {
			return 0, i, api.ErrForm
		}
		count++
	}
	return count, 0, api.OK
}

// Name says whether s is a name.
func Name(s string) bool {
	count := 0
	for _, r := range s {
		count++
		if count > api.MaxName || !inName(r) {
			return false
		}
	}
	return count > 0
}

func inName(r rune) bool {
	switch {
	case 'a' <= r && r <= 'z', '0' <= r && r <= '9', r == '-', r == '_':
		return true
	}
	return 0x3b1 <= r && r <= 0x3c9
}

// Words are the words of a text, or the place and the error of its first fault.
func Words(s string) ([]string, int, api.Errno) {
	if _, fault, err := Check(s); err != api.OK {
		return nil, fault, err
	}
	var words []string
	var word strings.Builder
	place := between
	for i, r := range s {
		next := step(place, r)
		switch {
		case next == nowhere:
			return nil, i, api.ErrForm
		case next == between && place != between:
			words = append(words, word.String())
			word.Reset()
		case said(place, next):
			word.WriteRune(r)
		}
		place = next
	}
	switch place {
	case quoted, escaped:
		return nil, len(s), api.ErrForm
	case bare, closed:
		words = append(words, word.String())
	}
	return words, 0, api.OK
}

// step is the place behind the rune r that stands at a place.
func step(place int, r rune) int {
	switch place {
	case between:
		return begin(r)
	case bare:
		return goOn(r)
	case quoted:
		return goOnQuoted(r)
	case escaped:
		if r == '"' || r == '\\' {
			return quoted
		}
	case closed:
		if r == ' ' {
			return between
		}
	}
	return nowhere
}

func begin(r rune) int {
	switch r {
	case ' ':
		return between
	case '"':
		return quoted
	}
	return bare
}

func goOn(r rune) int {
	switch r {
	case ' ':
		return between
	case '"':
		return nowhere
	}
	return bare
}

func goOnQuoted(r rune) int {
	switch r {
	case '"':
		return closed
	case '\\':
		return escaped
	}
	return quoted
}

// said tells whether the rune between two places is one that the word says: the marks around a quoted word are none, nor is a backslash that stands for the rune behind it.
func said(place, next int) bool {
	return next == bare || next == quoted && place != between
}

// Quote is s as a word: as it is, or in quotation marks.
func Quote(s string) string {
	if s != "" && !strings.ContainsAny(s, ` "`) {
		return strings.Clone(s)
	}
	var word strings.Builder
	word.WriteByte('"')
	for _, b := range []byte(s) { // bytes, for s needn't be a text
		if b == '"' || b == '\\' {
			word.WriteByte('\\')
		}
		word.WriteByte(b)
	}
	word.WriteByte('"')
	return word.String()
}
