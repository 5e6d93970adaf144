package order

import (
	"slices"
	"strings"

	"drover/api"
)

const maxDigits = 13

// A reader takes the words behind the first one by one, of which there are as many as the kind asks for. Once one isn't what it should be the reader is bad, and what it has read means nothing.
type reader struct {
	words []string
	bad   bool
}

// command reads a command that need not be formed. The calls within a literal or an assignment come in the order in which they stand, which is the order of the words.
func (in *reader) command(kind int) Command {
	c := Command{Kind: kind}
	switch kind {
	case tenant:
		c.Tenant = api.Tenant{Name: in.word(), Weight: in.number(), Quota: in.vector()}
	case submit:
		c.Job = in.job()
	case cancel, query:
		c.Number = in.number()
	case up:
		c.Node, c.Epoch, c.Vector = in.word(), in.number(), in.vector()
	case beat:
		c.Node, c.Epoch = in.word(), in.number()
	case done, fail:
		c.Node, c.Epoch, c.Number, c.Attempt = in.word(), in.number(), in.number(), in.number()
	}
	return c
}

func (in *reader) job() api.Job {
	return api.Job{
		ID:       in.number(),
		Tenant:   in.word(),
		Priority: in.number(),
		Runtime:  in.number(),
		Parents:  in.jobs(),
		Tasks:    in.vectors(),
	}
}

func (in *reader) word() string {
	word := in.words[0]
	in.words = in.words[1:]
	return word
}

func (in *reader) number() int64 {
	return in.value(in.word())
}

func (in *reader) vector() api.Vector {
	var v api.Vector
	values := in.values(in.word(), ":")
	if len(values) != len(v) {
		in.bad = true
	}
	copy(v[:], values)
	return v
}

// vectors reads all words that are left.
func (in *reader) vectors() []api.Vector {
	var l []api.Vector
	for len(in.words) > 0 {
		l = append(l, in.vector())
	}
	return l
}

// jobs reads a list of jobs, and puts them in order, each once.
func (in *reader) jobs() []int64 {
	word := in.word()
	if word == "-" {
		return nil
	}
	l := in.values(word, ",")
	slices.Sort(l)
	return slices.Compact(l)
}

// values are the numbers that stand in a word with a mark between them.
func (in *reader) values(word, mark string) []int64 {
	var l []int64
	for _, s := range strings.Split(word, mark) {
		l = append(l, in.value(s))
	}
	return l
}

// value is what a number says; it can't be too great, as it has few digits.
func (in *reader) value(s string) int64 {
	n := int64(0)
	for i, r := range s {
		ahead := i > 0 && n == 0 // the rune stands behind a 0 that is the first
		if r < '0' || r > '9' || ahead || i >= maxDigits {
			in.bad = true
			return 0
		}
		n = n*10 + int64(r-'0')
	}
	if s == "" {
		in.bad = true
	}
	return n
}
