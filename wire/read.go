package wire

import (
	"unicode/utf8"

	"drover/api"
)

const (
	maxNumberBytes = 9 // 63 bits: they fit in an int64, and no formed record has a number that needs more
	maxTextBytes   = api.MaxName * utf8.UTFMax
)

// A reader takes a record's parts from the bytes that are left. Once they mean nothing it is bad, and what it reads from then on is nothing.
type reader struct {
	rest []byte
	bad  bool
}

func (in *reader) fail() {
	in.rest, in.bad = nil, true
}

// record reads a record that need not be formed; nil of no kind. The calls within a literal come in the order in which they stand, which is the order of the bytes.
func (in *reader) record() api.Record {
	switch api.Make(api.Plain{Kind: in.kind()}).(type) {
	case api.Joined:
		return api.Joined{Tenant: api.Tenant{Name: in.text(), Weight: in.number(), Quota: in.vector()}}
	case api.Up:
		return api.Up{Node: in.text(), Epoch: in.number(), Capacity: in.vector()}
	case api.Beat:
		return api.Beat{Node: in.text()}
	case api.Down:
		return api.Down{Node: in.text()}
	case api.Submitted:
		return api.Submitted{Job: in.job()}
	case api.Released:
		return api.Released{Job: in.number()}
	case api.Placed:
		return api.Placed{Job: in.number(), Nodes: list(in.upTo(api.MaxTasks), in.text)}
	case api.Evicted:
		return api.Evicted{Job: in.number()}
	case api.Part:
		return api.Part{Job: in.number(), Node: in.text()}
	case api.Ended:
		return api.Ended{Job: in.number(), State: in.upTo(api.Cancelled)}
	case api.Ticked:
		return api.Ticked{}
	}
	return nil
}

func (in *reader) job() api.Job {
	return api.Job{
		ID:       in.number(),
		Tenant:   in.text(),
		Priority: in.number(),
		Runtime:  in.number(),
		Parents:  list(in.upTo(api.MaxParents), in.number),
		Tasks:    list(in.upTo(api.MaxTasks), in.vector),
	}
}

func (in *reader) kind() int {
	if len(in.rest) == 0 {
		in.fail()
		return 0
	}
	kind := in.rest[0]
	in.rest = in.rest[1:]
	return int(kind)
}

func (in *reader) number() int64 {
	n := int64(0)
	for i := range min(len(in.rest), maxNumberBytes) {
		b := in.rest[i]
		n |= int64(b&127) << (7 * i)
		if b > 127 {
			continue
		}
		if b == 0 && i > 0 {
			break // a number has one form: this one has a byte too many
		}
		in.rest = in.rest[i+1:]
		return n
	}
	in.fail()
	return 0
}

// upTo reads a number of at most most. Bytes may say how long a list is, but not make it longer than any formed record's.
func (in *reader) upTo(most int) int {
	n := in.number()
	if n > int64(most) {
		in.fail()
		return 0
	}
	return int(n)
}

func (in *reader) text() string {
	n := in.upTo(maxTextBytes)
	if n > len(in.rest) {
		in.fail()
		return ""
	}
	s := string(in.rest[:n])
	in.rest = in.rest[n:]
	return s
}

func (in *reader) vector() api.Vector {
	var v api.Vector
	for i := range v {
		v[i] = in.number()
	}
	return v
}

func list[T any](count int, one func() T) []T {
	var l []T
	for range count {
		l = append(l, one())
	}
	return l
}
