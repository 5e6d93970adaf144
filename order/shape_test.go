package order

import (
	"strings"
	"testing"

	"drover/api"
)

// P20.2: a line has at most MaxLine bytes. (No formed command has one that comes near that, so the words here are no command's.)
func TestLineOf(t *testing.T) {
	for _, words := range [][]string{
		{strings.Repeat("a", 512)}, {strings.Repeat("α", 256)}, {"a", strings.Repeat("a", 510)}, {strings.Repeat("a", 510), "a"}, {"a", strings.Repeat("α", 253), "aa", ""},
	} {
		want := strings.Join(words, " ")
		if line, e := lineOf(words); line != want || e != api.OK || len(line) != api.MaxLine {
			t.Errorf("a line of %d bytes is %q, %d", len(want), line, e)
		}
		words[0] += "a"
		if line, e := lineOf(words); line != "" || e != api.ErrLong {
			t.Errorf("a line of %d bytes is %q, %d", len(want)+1, line, e)
		}
	}
}

// P20.1, P20.2: each kind has a form of its own, and each form is some kind's.
func TestForms(t *testing.T) {
	firsts := map[string]bool{}
	for kind := tenant; kind <= nodes; kind++ {
		f := forms[kind]
		firsts[f.first] = true
		words := make([]string, f.count)
		words[0] = f.first
		if got := kindOf(words); got != kind {
			t.Errorf("the kind of %q is %d, not %d", words, got, kind)
		}
		if more := kindOf(append(words, "")); (more == kind) != f.more || f.more != (kind == submit) {
			t.Errorf("the kind of %q and a word more is %d", words, more)
		}
	}
	if len(forms) != 11 || len(firsts) != 10 || firsts[""] {
		t.Errorf("there are %d forms, with the first words %v", len(forms), firsts)
	}
}
