package wire

import (
	"bytes"
	"encoding/binary"
	"math"
	"math/rand/v2"
	"reflect"
	"slices"
	"strings"
	"testing"

	"drover/api"
)

const top = api.MaxAmount

var (
	goodNames   = []string{"a", "node-1", "_", "0", "αβ", strings.Repeat("z", 16), strings.Repeat("ω", 16)}
	badNames    = []string{"", "Node", "a b", "é", "a\n", "\xff", "a\x00", "\"a\"", strings.Repeat("a", 17), strings.Repeat("α", 17), strings.Repeat("a", 65), strings.Repeat("a", 5000)}
	goodVectors = []api.Vector{{}, {1, 0, 0, 2}, {top, top, top, top}, {127, 128, 16383, 16384}, {0, top, 0, 1}}
	badVectors  = []api.Vector{{-1}, {0, -1}, {0, 0, -1}, {0, 0, 0, -1}, {top + 1}, {0, top + 1}, {0, 0, top + 1}, {0, 0, 0, top + 1}, {math.MinInt64}, {0, 0, 0, math.MaxInt64}}
	goodIDs     = []int64{1, 2, 50, 99, 100}
	badIDs      = []int64{0, -1, 101, 128, 1<<32 + 1, math.MinInt64, math.MaxInt64}
)

// tenant and job are formed, with one thing changed.
func tenant(change func(*api.Tenant)) api.Record {
	x := api.Tenant{Name: "a", Weight: 3, Quota: api.Vector{4, 5, 6, 7}}
	change(&x)
	return api.Joined{Tenant: x}
}

func job(change func(*api.Job)) api.Record {
	x := api.Job{ID: 7, Tenant: "t", Priority: 5, Runtime: 10, Parents: []int64{2, 9}, Tasks: []api.Vector{{1, 2, 3, 4}, {5}}}
	change(&x)
	return api.Submitted{Job: x}
}

// goodJobs, badJobs: in each way formed, and not.
func goodJobs() []api.Record {
	var l []api.Record
	add := func(change func(*api.Job)) { l = append(l, job(change)) }
	for _, id := range goodIDs {
		add(func(x *api.Job) { x.ID, x.Parents = id, nil })
		add(func(x *api.Job) { x.ID, x.Parents = 3, []int64{id} })
	}
	for _, s := range goodNames {
		add(func(x *api.Job) { x.Tenant = s })
	}
	for _, n := range []int64{0, 1, 99, 100} {
		add(func(x *api.Job) { x.Priority = n })
	}
	for _, n := range []int64{1, 127, 128, 999, 1000} {
		add(func(x *api.Job) { x.Runtime = n })
	}
	for _, p := range [][]int64{nil, {}, {1}, {100}, {1, 2}, {6, 8}, {99, 100}, {1, 2, 3}, {1, 2, 3, 4}, {97, 98, 99, 100}, {1, 50, 51, 100}} {
		add(func(x *api.Job) { x.Parents = p })
	}
	for n := range api.MaxTasks {
		for _, v := range goodVectors {
			add(func(x *api.Job) { x.Tasks = slices.Repeat([]api.Vector{v}, n+1) })
		}
	}
	add(func(x *api.Job) { x.Nodes, x.Done = []string{}, []string{} })
	return l
}

func badJobs() []api.Record {
	var l []api.Record
	add := func(change func(*api.Job)) { l = append(l, job(change)) }
	for _, id := range badIDs {
		add(func(x *api.Job) { x.ID = id })
		add(func(x *api.Job) { x.Parents = []int64{id} })
		add(func(x *api.Job) { x.Parents = []int64{1, id} })
		add(func(x *api.Job) { x.Parents = []int64{id, 100} })
	}
	for _, s := range badNames {
		add(func(x *api.Job) { x.Tenant = s })
	}
	for _, n := range []int64{-1, 101, math.MinInt64, math.MaxInt64} {
		add(func(x *api.Job) { x.Priority = n })
	}
	for _, n := range []int64{0, -1, 1001, math.MinInt64, math.MaxInt64} {
		add(func(x *api.Job) { x.Runtime = n })
	}
	for _, p := range [][]int64{{7}, {6, 7}, {7, 8}, {1, 2, 3, 7}, {1, 1}, {2, 1}, {1, 3, 2}, {1, 3, 3}, {4, 3, 2, 1}, {1, 2, 3, 4, 5}, {1, 2, 3, 4, 4}, {96, 97, 98, 99, 100}} {
		add(func(x *api.Job) { x.Parents = p })
	}
	add(func(x *api.Job) { x.Tasks = nil })
	add(func(x *api.Job) { x.Tasks = []api.Vector{} })
	add(func(x *api.Job) { x.Tasks = make([]api.Vector, 7) })
	add(func(x *api.Job) { x.Tasks = make([]api.Vector, 1000) })
	for _, v := range badVectors {
		add(func(x *api.Job) { x.Tasks = []api.Vector{v} })
		add(func(x *api.Job) { x.Tasks = []api.Vector{{}, {}, {}, {}, {}, v} })
		add(func(x *api.Job) { x.Tasks = []api.Vector{v, {}} })
	}
	return l
}

// untoldJobs are not formed by what has no bytes.
func untoldJobs() []api.Record {
	var l []api.Record
	for _, n := range []int64{-1, 1, 3, math.MaxInt32} {
		l = append(l, job(func(x *api.Job) { x.State = int(n) }))
		l = append(l, job(func(x *api.Job) { x.Attempt = n }))
		l = append(l, job(func(x *api.Job) { x.Start = n }))
	}
	for _, names := range [][]string{{"a"}, {""}, {"a", "b"}} {
		l = append(l, job(func(x *api.Job) { x.Nodes = names }))
		l = append(l, job(func(x *api.Job) { x.Done = names }))
	}
	return l
}

func goodRecords() []api.Record {
	l := append(goodJobs(), api.Ticked{})
	for _, s := range goodNames {
		l = append(l, tenant(func(x *api.Tenant) { x.Name = s }))
		l = append(l, api.Up{Node: s, Epoch: 1}, api.Beat{Node: s}, api.Down{Node: s}, api.Part{Job: 1, Node: s})
		for n := range api.MaxTasks {
			l = append(l, api.Placed{Job: 1, Nodes: slices.Repeat([]string{s}, n+1)})
		}
	}
	for _, n := range []int64{1, 2, 127, 128, 999, 1000} {
		l = append(l, tenant(func(x *api.Tenant) { x.Weight = n }))
	}
	for _, n := range []int64{1, 127, 128, 300, 1 << 21, 1<<28 - 1, 1 << 28, 1<<31 - 2, 1<<31 - 1} {
		l = append(l, api.Up{Node: "a", Epoch: n})
	}
	for _, v := range goodVectors {
		l = append(l, tenant(func(x *api.Tenant) { x.Quota = v }))
		l = append(l, api.Up{Node: "a", Epoch: 1, Capacity: v})
	}
	for _, id := range goodIDs {
		l = append(l, api.Released{Job: id}, api.Evicted{Job: id}, api.Part{Job: id, Node: "n"})
		l = append(l, api.Placed{Job: id, Nodes: []string{"b", "a", "b"}})
		for _, state := range []int{api.Succeeded, api.Failed, api.Cancelled} {
			l = append(l, api.Ended{Job: id, State: state})
		}
	}
	return l
}

func badRecords() []api.Record {
	l := append(badJobs(), api.Joined{}, api.Up{}, api.Beat{}, api.Down{}, api.Submitted{}, api.Released{}, api.Placed{}, api.Evicted{}, api.Part{}, api.Ended{})
	for _, s := range badNames {
		l = append(l, tenant(func(x *api.Tenant) { x.Name = s }))
		l = append(l, api.Up{Node: s, Epoch: 1}, api.Beat{Node: s}, api.Down{Node: s}, api.Part{Job: 1, Node: s})
		l = append(l, api.Placed{Job: 1, Nodes: []string{s}}, api.Placed{Job: 1, Nodes: []string{s, "a"}}, api.Placed{Job: 1, Nodes: []string{"a", "a", "a", "a", "a", s}})
	}
	for _, n := range []int64{0, -1, 1001, math.MinInt64, math.MaxInt64} {
		l = append(l, tenant(func(x *api.Tenant) { x.Weight = n }))
	}
	for _, n := range []int64{0, -1, 1 << 31, 1<<32 + 1, math.MinInt64, math.MaxInt64} {
		l = append(l, api.Up{Node: "a", Epoch: n})
	}
	for _, v := range badVectors {
		l = append(l, tenant(func(x *api.Tenant) { x.Quota = v }))
		l = append(l, api.Up{Node: "a", Epoch: 1, Capacity: v})
	}
	for _, id := range badIDs {
		l = append(l, api.Released{Job: id}, api.Evicted{Job: id}, api.Part{Job: id, Node: "n"})
		l = append(l, api.Placed{Job: id, Nodes: []string{"a"}}, api.Ended{Job: id, State: api.Failed})
	}
	for _, nodes := range [][]string{nil, {}, {"a", "b", "c", "d", "e", "f", "g"}, slices.Repeat([]string{"a"}, 1000)} {
		l = append(l, api.Placed{Job: 1, Nodes: nodes})
	}
	for _, state := range []int{0, -1, api.Waiting, api.Ready, api.Running, 7, 4 + 128, math.MinInt, math.MaxInt} {
		l = append(l, api.Ended{Job: 1, State: state})
	}
	return l
}

// The types that are no record's, though they have a Kind.
type (
	within11 struct{ api.Ticked }
	named    api.Ticked
	broken   struct{}
)

func (named) Kind() int  { return 11 }
func (broken) Kind() int { panic("a Kind that nobody may ask for") }

// noRecords are nil, pointers and other types.
func noRecords() []api.Record {
	var none *api.Beat
	return []api.Record{
		nil, none, (*api.Submitted)(nil), (*api.Ticked)(nil), within11{}, &within11{}, named{}, broken{}, &broken{},
		&api.Joined{Tenant: api.Tenant{Name: "a", Weight: 1}}, &api.Up{Node: "a", Epoch: 1}, &api.Beat{Node: "a"}, &api.Down{Node: "a"},
		&api.Submitted{Job: api.Job{ID: 1, Tenant: "a", Runtime: 1, Tasks: []api.Vector{{}}}}, &api.Released{Job: 1},
		&api.Placed{Job: 1, Nodes: []string{"a"}}, &api.Evicted{Job: 1}, &api.Part{Job: 1, Node: "a"}, &api.Ended{Job: 1, State: 4}, &api.Ticked{},
	}
}

// A piece is a kind, a number or a text's bytes.
type piece struct {
	b      []byte
	number bool
}

// pieces are a record's bytes, formed or not, told by its fields in the order of their declaration.
func pieces(r api.Record) []piece {
	l := []piece{{b: []byte{byte(r.Kind())}}}
	number := func(n uint64) { l = append(l, piece{binary.AppendUvarint(nil, n), true}) }
	var walk func(reflect.Value)
	walk = func(v reflect.Value) {
		switch v.Kind() {
		case reflect.Int, reflect.Int64:
			number(uint64(v.Int()))
		case reflect.String:
			number(uint64(v.Len()))
			l = append(l, piece{b: []byte(v.String())})
		case reflect.Slice, reflect.Array:
			if v.Kind() == reflect.Slice {
				number(uint64(v.Len()))
			}
			for i := range v.Len() {
				walk(v.Index(i))
			}
		case reflect.Struct:
			for i := range v.NumField() {
				if v.Type().Field(i).Name == "State" && v.Type() == reflect.TypeFor[api.Job]() {
					return
				}
				walk(v.Field(i))
			}
		}
	}
	walk(reflect.ValueOf(r))
	return l
}

func joined(l []piece) []byte {
	var b []byte
	for _, p := range l {
		b = append(b, p.b...)
	}
	return b
}

// same tells whether two records are one, where no list is an empty one.
func same(a, b api.Record) bool {
	clean := func(r api.Record) api.Plain {
		p := api.Plainly(r)
		if len(p.Job.Parents) == 0 {
			p.Job.Parents = nil
		}
		if len(p.Job.Nodes) == 0 {
			p.Job.Nodes = nil
		}
		if len(p.Job.Done) == 0 {
			p.Job.Done = nil
		}
		return p
	}
	return reflect.TypeOf(a) == reflect.TypeOf(b) && reflect.DeepEqual(clean(a), clean(b))
}

func refused(t *testing.T, b []byte) {
	t.Helper()
	if r, err := Decode(b); r != nil || err != api.ErrBad {
		t.Errorf("Decode(%v) = %v, %d; want nil, ErrBad", b, r, err)
	}
}

func thereAndBack(t *testing.T, r api.Record, want []byte) {
	t.Helper()
	if !Formed(r) {
		t.Errorf("Formed(%#v) = false", r)
	}
	b, err := Encode(r)
	if err != api.OK || !bytes.Equal(b, want) {
		t.Errorf("Encode(%#v) = %v, %d; want %v", r, b, err, want)
	}
	if back, err := Decode(want); err != api.OK || !same(back, r) {
		t.Errorf("Decode(%v) = %#v, %d; want %#v", want, back, err, r)
	}
}

// P4.1: the chapter's examples, and one of each kind, byte by byte.
func TestBytes(t *testing.T) {
	for _, x := range []struct {
		r    api.Record
		want []byte
	}{
		{api.Joined{Tenant: api.Tenant{Name: "aβ", Weight: 1000, Quota: api.Vector{0, 127, 128, 1 << 40}}}, []byte{1, 3, 97, 206, 178, 232, 7, 0, 127, 128, 1, 128, 128, 128, 128, 128, 32}},
		{api.Up{Node: "a", Epoch: 300, Capacity: api.Vector{1, 0, 0, 2}}, []byte{2, 1, 97, 172, 2, 1, 0, 0, 2}},
		{api.Up{Node: "a", Epoch: 1<<31 - 1}, []byte{2, 1, 97, 255, 255, 255, 255, 7, 0, 0, 0, 0}},
		{api.Beat{Node: "a"}, []byte{3, 1, 97}},
		{api.Down{Node: "a-1"}, []byte{4, 3, 97, 45, 49}},
		{api.Submitted{Job: api.Job{ID: 9, Tenant: "t", Priority: 100, Runtime: 1000, Parents: []int64{1, 100}, Tasks: []api.Vector{{1, 2, 3, 4}, {200}}}}, []byte{5, 9, 1, 116, 100, 232, 7, 2, 1, 100, 2, 1, 2, 3, 4, 200, 1, 0, 0, 0}},
		{api.Submitted{Job: api.Job{ID: 1, Tenant: "t", Runtime: 1, Tasks: []api.Vector{{}}}}, []byte{5, 1, 1, 116, 0, 1, 0, 1, 0, 0, 0, 0}},
		{api.Released{Job: 5}, []byte{6, 5}},
		{api.Placed{Job: 100, Nodes: []string{"b", "a", "b"}}, []byte{7, 100, 3, 1, 98, 1, 97, 1, 98}},
		{api.Evicted{Job: 1}, []byte{8, 1}},
		{api.Part{Job: 2, Node: "n"}, []byte{9, 2, 1, 110}},
		{api.Ended{Job: 3, State: api.Succeeded}, []byte{10, 3, 4}},
		{api.Ended{Job: 3, State: api.Failed}, []byte{10, 3, 5}},
		{api.Ended{Job: 3, State: api.Cancelled}, []byte{10, 3, 6}},
		{api.Ticked{}, []byte{11}},
	} {
		thereAndBack(t, x.r, x.want)
	}
	refused(t, []byte{11, 0})
}

// P4.1, P4.4: in each way formed.
func TestFormed(t *testing.T) {
	for _, r := range goodRecords() {
		thereAndBack(t, r, joined(pieces(r)))
	}
}

// P4.1: in each way not formed; nil, pointers and other types.
func TestNotFormed(t *testing.T) {
	for _, r := range slices.Concat(badRecords(), untoldJobs(), noRecords()) {
		if Formed(r) {
			t.Errorf("Formed(%#v) = true", r)
		}
		if b, err := Encode(r); len(b) != 0 || err != api.ErrForm {
			t.Errorf("Encode(%#v) = %v, %d; want ErrForm", r, b, err)
		}
	}
}

// P4.1: the bytes of what isn't formed are no record's.
func TestDecodeNotFormed(t *testing.T) {
	for _, r := range badRecords() {
		refused(t, joined(pieces(r)))
	}
	for kind := range 256 {
		if kind != 11 {
			refused(t, []byte{byte(kind)})
		}
	}
	refused(t, nil)
	refused(t, []byte{})
}

// P4.1, P4.4: numbers of one byte and of several, at their borders.
func TestNumbers(t *testing.T) {
	for bits := range 41 {
		for _, n := range []int64{1<<bits - 1, 1 << bits, 1<<bits + 1} {
			if n > top {
				continue
			}
			r := api.Up{Node: "a", Epoch: 1, Capacity: api.Vector{n, 0, n, 1}}
			one := binary.AppendUvarint(nil, uint64(n))
			thereAndBack(t, r, slices.Concat([]byte{2, 1, 97, 1}, one, []byte{0}, one, []byte{1}))
		}
	}
	for n, size := range map[int64]int{0: 1, 127: 1, 128: 2, 1<<14 - 1: 2, 1 << 14: 3, 1<<21 - 1: 3, 1 << 21: 4, 1<<28 - 1: 4, 1 << 28: 5, 1<<35 - 1: 5, 1 << 35: 6, top: 6} {
		if b, _ := Encode(api.Up{Node: "a", Epoch: 1, Capacity: api.Vector{n}}); len(b) != 7+size {
			t.Errorf("%d has %d bytes, want %d", n, len(b)-7, size)
		}
	}
}

// P4.1, P4.4: a number has one form: no last byte that is 0, however many, and none that wraps round.
func TestNumbersOneForm(t *testing.T) {
	for _, r := range goodRecords() {
		for i, p := range pieces(r) {
			if !p.number {
				continue
			}
			long := slices.Clone(p.b)
			for range 12 {
				long[len(long)-1] |= 128
				long = append(long, 0)
				l := pieces(r)
				l[i].b = long
				refused(t, joined(l))
			}
			for _, shift := range []int{7, 31, 32, 40, 62, 63} {
				l := pieces(r)
				n, _ := binary.Uvarint(p.b)
				if n < 1<<shift {
					l[i].b = binary.AppendUvarint(nil, n+1<<shift)
					stable(t, joined(l))
				}
			}
		}
	}
	for _, high := range []byte{1, 2, 3, 64, 127} {
		// 5 and much more: bits 63, 64 and up
		refused(t, []byte{6, 133, 128, 128, 128, 128, 128, 128, 128, 128, high})
		refused(t, []byte{6, 133, 128, 128, 128, 128, 128, 128, 128, 128, 128, high})
		refused(t, []byte{6, 133, 128, 128, 128, 128, 128, 128, 128, high})
	}
	refused(t, append([]byte{6}, bytes.Repeat([]byte{128}, 1000)...))
	refused(t, append([]byte{6}, bytes.Repeat([]byte{255}, 1000)...))
	refused(t, []byte{10, 1, 132, 128, 128, 128, 16}) // the state 4 and 2^32
	refused(t, []byte{139, 0})                        // a kind is one byte
	refused(t, []byte{139, 1})
}

// stable says that what is decoded of b, if anything, has just these bytes.
func stable(t *testing.T, b []byte) {
	t.Helper()
	r, err := Decode(b)
	if err == api.OK {
		if again, err := Encode(r); err != api.OK || !bytes.Equal(again, b) || !Formed(r) {
			t.Errorf("Decode(%v) = %#v, whose bytes are %v", b, r, again)
		}
		return
	}
	if r != nil || err != api.ErrBad {
		t.Errorf("Decode(%v) = %#v, %d; want nil, ErrBad", b, r, err)
	}
}

// P4.1: bytes that end too early, and that are too many.
func TestTooFewTooMany(t *testing.T) {
	for _, r := range goodRecords() {
		b, _ := Encode(r)
		for n := range b {
			refused(t, b[:n])
		}
		for _, more := range []byte{0, 1, 11, 128, 255} {
			refused(t, append(slices.Clone(b), more))
		}
		refused(t, slices.Concat(b, b))
	}
}

// P4.1, R1: numbers of bytes and members that nothing stands behind are met at once.
func TestGreatCounts(t *testing.T) {
	for _, n := range []uint64{2, 5, 7, 33, 64, 65, 127, 128, 1 << 20, 1<<31 - 1, 1 << 32, 1<<32 + 1, 1 << 40, 1<<62 + 1, 1<<63 - 1, 1 << 63, 1<<64 - 1} {
		count := binary.AppendUvarint(nil, n)
		for _, rest := range [][]byte{nil, {97}} {
			refused(t, slices.Concat([]byte{3}, count, rest))
			refused(t, slices.Concat([]byte{9, 1}, count, rest))
			refused(t, slices.Concat([]byte{7, 1}, count, rest))
			refused(t, slices.Concat([]byte{7, 1, 1}, count, rest))
			refused(t, slices.Concat([]byte{5, 1, 1, 116, 0, 1}, count, rest))
			refused(t, slices.Concat([]byte{5, 1, 1, 116, 0, 1, 0}, count, rest))
		}
	}
	noughts := make([]byte, 1<<24)
	refused(t, slices.Concat([]byte{7, 1}, binary.AppendUvarint(nil, 1<<24), noughts))
	refused(t, slices.Concat([]byte{5, 1, 1, 116, 0, 1, 0}, binary.AppendUvarint(nil, 1<<22), noughts))
	refused(t, slices.Concat([]byte{3}, binary.AppendUvarint(nil, 1<<24), noughts))
}

// P4.1, P4.4: all bytes up to three: just as many are decoded as there are records of so few.
func TestDecodeEveryShort(t *testing.T) {
	decoded := 0
	try := func(b ...byte) {
		if _, err := Decode(b); err == api.OK {
			stable(t, b)
			decoded++
		}
	}
	try()
	for a := range 256 {
		try(byte(a))
		for b := range 256 {
			try(byte(a), byte(b))
			for c := range 256 {
				try(byte(a), byte(b), byte(c))
			}
		}
	}
	// Ticked; Beat and Down of 38 names of one byte; Released and Evicted; Ended with three states.
	if want := 1 + 2*38 + 2*100 + 3*100; decoded != want {
		t.Errorf("%d were decoded, want %d", decoded, want)
	}
}

// P4.4: a byte turned in a record's bytes makes them another's, or nobody's.
func TestTurnedBytes(t *testing.T) {
	for _, r := range goodRecords() {
		b, _ := Encode(r)
		for i := range b {
			was := b[i]
			for turn := 1; turn < 256; turn++ {
				b[i] = was ^ byte(turn)
				stable(t, b)
				if back, err := Decode(b); err == api.OK && same(back, r) {
					t.Errorf("Decode(%v) is what %#v is decoded from too", b, r)
				}
			}
			b[i] = was
		}
	}
}

// anyRecord is a formed record, strewn over all that are.
func anyRecord(from *rand.Rand) api.Record {
	number := func(least, most int64) int64 { return least + from.Int64N(most-least+1) }
	name := func() string {
		letters := []rune("abcxyz0189-_αβςω")
		var s []rune
		for range number(1, api.MaxName) {
			s = append(s, letters[from.IntN(len(letters))])
		}
		return string(s)
	}
	amounts := func() api.Vector {
		var v api.Vector
		for i := range v {
			v[i] = number(0, 1<<number(0, 40))
		}
		return v
	}
	p := api.Plain{Kind: int(number(1, 11)), Node: name(), Epoch: number(1, math.MaxInt32), Vector: amounts(), ID: number(1, 100), State: int(number(4, 6))}
	p.Tenant = api.Tenant{Name: name(), Weight: number(1, 1000), Quota: amounts()}
	for range number(1, api.MaxTasks) {
		p.Nodes = append(p.Nodes, name())
		p.Job.Tasks = append(p.Job.Tasks, amounts())
	}
	p.Job.ID, p.Job.Tenant, p.Job.Priority, p.Job.Runtime = 50, name(), number(0, 100), number(1, 1000)
	for parent := number(1, 60); parent <= 100 && len(p.Job.Parents) < int(number(0, 4)); parent += number(1, 30) {
		if parent != 50 {
			p.Job.Parents = append(p.Job.Parents, parent)
		}
	}
	return api.Make(p)
}

// P4.1, P4.4: records of all kinds, and bytes of all kinds.
func TestStrewn(t *testing.T) {
	from := rand.New(rand.NewPCG(4, 4))
	known := map[string]api.Record{}
	for range 30000 {
		r := anyRecord(from)
		b := joined(pieces(r))
		thereAndBack(t, r, b)
		if other, ok := known[string(b)]; ok && !same(r, other) {
			t.Errorf("%#v and %#v have the same bytes", r, other)
		}
		known[string(b)] = r
		for range 10 {
			turned := slices.Clone(b)
			turned[from.IntN(len(turned))] = byte(from.IntN(256))
			turned[from.IntN(len(turned))] = byte(from.IntN(256))
			stable(t, turned[:1+from.IntN(len(turned))])
		}
	}
}

// P4.2: the job of a Submitted, formed or not, whole.
func TestJob(t *testing.T) {
	full := api.Job{
		ID: -3, Tenant: "No name", Priority: 1000, Runtime: -1, Parents: []int64{3, 3}, Tasks: []api.Vector{{-1, 2, 3, 4}, {5}},
		State: api.Running, Attempt: 7, Nodes: []string{"a", ""}, Start: 12, Done: []string{"b"},
	}
	for _, x := range []api.Job{{}, {ID: 3}, full} {
		if got, ok := Job(api.Submitted{Job: x}); !ok || !reflect.DeepEqual(got, x) {
			t.Errorf("Job = %#v, %v; want %#v", got, ok, x)
		}
	}
	for _, r := range goodJobs() {
		if got, ok := Job(r); !ok || !same(api.Submitted{Job: got}, r) {
			t.Errorf("Job(%#v) = %#v, %v", r, got, ok)
		}
	}
	for _, r := range slices.Concat(noRecords(), goodRecords(), badRecords(), []api.Record{&api.Submitted{Job: full}}) {
		if reflect.TypeOf(r) == reflect.TypeFor[api.Submitted]() {
			continue
		}
		if got, ok := Job(r); ok || !reflect.DeepEqual(got, api.Job{}) {
			t.Errorf("Job(%#v) = %#v, %v; want none", r, got, ok)
		}
	}
}

// spare is l with room behind it in which something stands.
func spare[T any](l []T, mark T) []T {
	room := append(slices.Clone(l), mark, mark, mark, mark, mark, mark, mark, mark)
	return room[:len(l)]
}

// R5: records that are handed in stay as they were, their spare room too, and what is answered is new memory.
func TestRecordsLeftAlone(t *testing.T) {
	make1 := func() api.Job {
		return api.Job{ID: 9, Tenant: "t", Runtime: 1, Parents: spare([]int64{1, 2}, -7), Tasks: spare([]api.Vector{{1}, {2}}, api.Vector{-7})}
	}
	whole := func(x api.Job) api.Job {
		x.Parents, x.Tasks = x.Parents[:cap(x.Parents)], x.Tasks[:cap(x.Tasks)]
		x.Nodes, x.Done = x.Nodes[:cap(x.Nodes)], x.Done[:cap(x.Done)]
		return x
	}
	x := make1()
	Formed(api.Submitted{Job: x})
	b, _ := Encode(api.Submitted{Job: x})
	x.Nodes, x.Done = spare([]string{"n"}, "mark"), spare([]string{"m"}, "mark")
	want := make1()
	want.Nodes, want.Done = spare([]string{"n"}, "mark"), spare([]string{"m"}, "mark")
	got, _ := Job(api.Submitted{Job: x})
	got.Parents[0], got.Tasks[0], got.Nodes[0], got.Done[0] = 100, api.Vector{100}, "changed", "changed"
	got.Parents, got.Tasks = append(got.Parents, 5), append(got.Tasks, api.Vector{5})
	got.Nodes, got.Done = append(got.Nodes, "more"), append(got.Done, "more")
	if !reflect.DeepEqual(whole(x), whole(want)) {
		t.Errorf("the job is %#v, and was %#v", whole(x), whole(want))
	}
	clear(b)
	nodes := spare([]string{"a", "b"}, "mark")
	Encode(api.Placed{Job: 1, Nodes: nodes})
	if !slices.Equal(nodes[:cap(nodes)], spare([]string{"a", "b"}, "mark")[:cap(nodes)]) {
		t.Errorf("the nodes are %q", nodes[:cap(nodes)])
	}
	thereAndBack(t, api.Submitted{Job: make1()}, joined(pieces(api.Submitted{Job: make1()})))
}

// R5, R7: bytes that are handed in stay as they were, and aren't kept.
func TestBytesLeftAlone(t *testing.T) {
	for _, r := range goodRecords() {
		bare, _ := Encode(r)
		b := spare(bare, 77)
		was := slices.Clone(b[:cap(b)])
		first, _ := Decode(b)
		Decode(b[:len(b)-1])
		if !bytes.Equal(b[:cap(b)], was) {
			t.Errorf("the bytes are %v, and were %v", b[:cap(b)], was)
		}
		clear(b[:cap(b)])
		if !same(first, r) {
			t.Errorf("%#v hangs on the bytes that it was decoded from", first)
		}
		clear(bare)
		if again, _ := Encode(r); !bytes.Equal(again, joined(pieces(r))) {
			t.Errorf("Encode(%#v) = %v the second time", r, again)
		}
	}
	x, _ := Decode([]byte{7, 1, 2, 1, 97, 1, 98})
	y, _ := Decode([]byte{7, 1, 2, 1, 97, 1, 98})
	x.(api.Placed).Nodes[0] = "changed"
	if !same(y, api.Placed{Job: 1, Nodes: []string{"a", "b"}}) {
		t.Errorf("two answers hang on one another: %#v", y)
	}
}
