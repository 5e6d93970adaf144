package order_test

import (
	"math/rand"
	"reflect"
	"regexp"
	"slices"
	"strconv"
	"strings"
	"testing"

	"drover/api"
	"drover/order"
	"drover/runes"
)

const (
	digits  = `(?:0|[1-9][0-9]{0,12})`
	amounts = digits + `(?::` + digits + `){3}`
	list    = `(?:-|` + digits + `(?:,` + digits + `)*)`
	word    = `[^\x00]*`
)

// roleForm are words by their roles, as regular expressions say them.
var roleForm = map[rune]*regexp.Regexp{
	'a': regexp.MustCompile(`^` + word + `$`),
	'n': regexp.MustCompile(`^` + digits + `$`),
	'v': regexp.MustCompile(`^` + amounts + `$`),
	'l': regexp.MustCompile(`^` + list + `$`),
}

var nameForm = regexp.MustCompile(`^[a-z0-9_\-α-ω]{1,16}$`)

// parseAgain is what the chapter says of Parse, by regular expressions.
func parseAgain(line string) (order.Command, api.Errno) {
	if len(line) > 512 {
		return order.Command{}, api.ErrLong
	}
	words, _, e := runes.Words(line)
	if e != api.OK {
		return order.Command{}, e
	}
	kind, roles := 0, ""
	for _, x := range saids() {
		want := x.roles
		if x.c.Kind == 2 && len(words) >= 7 {
			want = want[:6] + strings.Repeat("v", len(words)-6)
		}
		if len(words) == len(want) && words[0] == strings.Fields(x.line)[0] {
			kind, roles = x.c.Kind, want
		}
	}
	if kind == 0 {
		return order.Command{}, api.ErrLine
	}
	for i, role := range roles[1:] {
		if !roleForm[role].MatchString(words[i+1]) {
			return order.Command{}, api.ErrBad
		}
	}
	if c := meant(kind, words); formedAgain(c) {
		return c, api.OK
	}
	return order.Command{}, api.ErrForm
}

func numbersOf(word, mark string) []int64 {
	var l []int64
	for _, s := range strings.Split(word, mark) {
		n, _ := strconv.ParseInt(s, 10, 64)
		l = append(l, n)
	}
	return l
}

// meant is the command that words mean which are all what they should be.
func meant(kind int, words []string) order.Command {
	n := func(i int) int64 { return numbersOf(words[i], ":")[0] }
	v := func(i int) api.Vector { return api.Vector(numbersOf(words[i], ":")) }
	c := order.Command{Kind: kind}
	switch kind {
	case 1:
		c.Tenant = api.Tenant{Name: words[1], Weight: n(2), Quota: v(3)}
	case 2:
		c.Job = api.Job{ID: n(1), Tenant: words[2], Priority: n(3), Runtime: n(4)}
		if words[5] != "-" {
			met := map[int64]int{}
			for _, parent := range numbersOf(words[5], ",") {
				if met[parent]++; met[parent] == 1 {
					c.Job.Parents = append(c.Job.Parents, parent)
				}
			}
			slices.Sort(c.Job.Parents)
		}
		for i := range words[6:] {
			c.Job.Tasks = append(c.Job.Tasks, v(6+i))
		}
	case 3, 4:
		c.Number = n(1)
	case 5:
		c.Node, c.Epoch, c.Vector = words[1], n(2), v(3)
	case 6:
		c.Node, c.Epoch = words[1], n(2)
	case 7, 8:
		c.Node, c.Epoch, c.Number, c.Attempt = words[1], n(2), n(3), n(4)
	}
	return c
}

func in(n, least, most int64) bool { return n >= least && n <= most }

func formedVector(v api.Vector) bool {
	return !slices.ContainsFunc(v[:], func(n int64) bool { return !in(n, 0, 1<<40) })
}

// formedAgain is what the chapter says of Formed: what a line names one by one, and by reflection that all else is zero.
func formedAgain(c order.Command) bool {
	named, ok := map[string]bool{"Kind": true}, true
	name := func(field string, good bool) {
		named[field] = true
		ok = ok && good
	}
	switch c.Kind {
	case 1:
		name("Tenant", nameForm.MatchString(c.Tenant.Name) && in(c.Tenant.Weight, 1, 1000) && formedVector(c.Tenant.Quota))
	case 2:
		name("Job", formedJob(c.Job))
	case 5:
		name("Vector", formedVector(c.Vector))
	}
	if c.Kind == 3 || c.Kind == 4 || c.Kind == 7 || c.Kind == 8 {
		name("Number", in(c.Number, 1, 100))
	}
	if in(int64(c.Kind), 5, 8) {
		name("Node", nameForm.MatchString(c.Node))
		name("Epoch", in(c.Epoch, 1, 1<<31-1))
	}
	if c.Kind == 7 || c.Kind == 8 {
		name("Attempt", in(c.Attempt, 1, 1<<31-1))
	}
	v := reflect.ValueOf(c)
	for i := range v.NumField() {
		if !named[v.Type().Field(i).Name] && !nought(v.Field(i)) {
			return false
		}
	}
	return ok && in(int64(c.Kind), 1, 10)
}

// nought tells whether v is zero, lists of no elements among it.
func nought(v reflect.Value) bool {
	switch v.Kind() {
	case reflect.Slice:
		return v.Len() == 0
	case reflect.Struct:
		for i := range v.NumField() {
			if !nought(v.Field(i)) {
				return false
			}
		}
		return true
	}
	return v.IsZero()
}

func formedJob(j api.Job) bool {
	rises := slices.IsSorted(j.Parents) && len(slices.Compact(slices.Clone(j.Parents))) == len(j.Parents)
	for _, parent := range j.Parents {
		rises = rises && in(parent, 1, 100) && parent != j.ID
	}
	return in(j.ID, 1, 100) && nameForm.MatchString(j.Tenant) && in(j.Priority, 0, 100) && in(j.Runtime, 1, 1000) &&
		rises && len(j.Parents) <= 4 && in(int64(len(j.Tasks)), 1, 6) && !slices.ContainsFunc(j.Tasks, func(v api.Vector) bool { return !formedVector(v) }) &&
		j.State == 0 && j.Attempt == 0 && len(j.Nodes) == 0 && j.Start == 0 && len(j.Done) == 0
}

// chances makes words and commands by chance, mostly such as are taken; odd says in how many of them about one is not.
type chances struct {
	*rand.Rand
	odd int
}

func (c *chances) of(l ...string) string { return l[c.Intn(len(l))] }

func (c *chances) name() string {
	if c.Intn(c.odd) == 0 {
		return c.of(notNames()...)
	}
	return c.of(goodNames()...)
}

// number is 1 to most, mostly.
func (c *chances) number(most int64) int64 {
	switch {
	case c.Intn(c.odd) == 0:
		return [...]int64{0, most + 1, 1 << 31, 1<<40 + 1, 9999999999999}[c.Intn(5)]
	case c.Intn(4) == 0:
		return [...]int64{1, most}[c.Intn(2)]
	}
	return 1 + c.Int63n(most)
}

// vector's numbers may have any number of digits.
func (c *chances) vector() api.Vector {
	var v api.Vector
	for i := range v {
		if v[i] = c.number(1<<40) >> c.Intn(41); c.Intn(c.odd*4) == 0 {
			v[i] = c.number(1 << 41)
		}
	}
	return v
}

func (c *chances) job() api.Job {
	j := api.Job{ID: c.number(100), Tenant: c.name(), Priority: c.number(100) - int64(c.Intn(2)), Runtime: c.number(1000)}
	for range c.Intn(5) {
		j.Parents = append(j.Parents, c.number(100))
	}
	for range 1 + c.Intn(6) {
		j.Tasks = append(j.Tasks, c.vector())
	}
	if c.Intn(c.odd) == 0 {
		j.Tasks = slices.Repeat(j.Tasks, 2)
	}
	if c.Intn(c.odd) != 0 {
		slices.Sort(j.Parents)
		j.Parents = slices.Compact(j.Parents)
	}
	return j
}

func (c *chances) command() order.Command {
	x := order.Command{Kind: 1 + c.Intn(10)}
	if c.Intn(c.odd) == 0 {
		x.Kind = c.Intn(14) - 1
	}
	stray := func(kinds ...int) bool { return slices.Contains(kinds, x.Kind) != (c.Intn(c.odd*8) == 0) }
	if stray(1) {
		x.Tenant = api.Tenant{Name: c.name(), Weight: c.number(1000), Quota: c.vector()}
	}
	if stray(2) {
		x.Job = c.job()
	}
	if stray(5, 6, 7, 8) {
		x.Node = c.name()
	}
	if stray(5, 6, 7, 8) {
		x.Epoch = c.number(last)
	}
	if stray(5) {
		x.Vector = c.vector()
	}
	if stray(3, 4, 7, 8) {
		x.Number = c.number(100)
	}
	if stray(7, 8) {
		x.Attempt = c.number(last)
	}
	return x
}

// wordOf is a word of that role, and now and then one of another.
func (c *chances) wordOf(role rune) string {
	decimal := func(n int64) string { return strconv.FormatInt(n, 10) }
	joined := func(l []int64, mark string) string {
		var s []string
		for _, n := range l {
			s = append(s, decimal(n))
		}
		return strings.Join(s, mark)
	}
	if c.Intn(c.odd*2) == 0 {
		return c.of("", "x", "-", "1", "01", "1:0:0", "1:0:0:0:0", "1,2,", ",", ":", "1::0:0", "a b", "10000000000000", "1:0:0:00")
	}
	switch role {
	case 'a':
		return c.name()
	case 'n':
		return decimal(c.number([...]int64{100, 100, 1000, last}[c.Intn(4)]))
	case 'v':
		v := c.vector()
		return joined(v[:], ":")
	}
	var l []int64
	for range c.Intn(7) {
		l = append(l, c.number(100))
	}
	if l == nil {
		return "-"
	}
	return joined(l, ",")
}

// line is a line of some kind, mostly.
func (c *chances) line() string {
	x := saids()[c.Intn(10)]
	first := strings.Fields(x.line)[0]
	roles := x.roles[1:]
	if x.c.Kind == 2 {
		roles = roles[:5] + strings.Repeat("v", 1+c.Intn(6))
	}
	if c.Intn(c.odd*2) == 0 {
		roles = roles[:len(roles)/2] + c.of("", "n", "v", "a")
	}
	if c.Intn(c.odd*2) == 0 {
		first = c.of("halt", "", "tick", "submit", "beat", "a b")
	}
	line := runes.Quote(first)
	for _, role := range roles {
		word := runes.Quote(c.wordOf(role))
		if c.Intn(8) == 0 && !strings.ContainsAny(word, `"\`) {
			word = `"` + word + `"`
		}
		line += strings.Repeat(" ", 1+c.Intn(10)/9) + word
	}
	switch c.Intn(c.odd * 4) {
	case 0:
		line += c.of("\xff", "\n", `"`, ` "`, "\x00 \xff", " x")
	case 1:
		line += strings.Repeat(" ", max(0, 510+c.Intn(5)-len(line)))
	}
	return line
}

// P20.1, P20.4: lines by chance are held against regular expressions; each kind meets each answer, and what is parsed is printed to a line that is parsed alike.
func TestLinesByChance(t *testing.T) {
	met := map[int]map[api.Errno]int{}
	for seed := range int64(40) {
		c := &chances{rand.New(rand.NewSource(seed)), []int{3, 10, 40, 200}[seed%4]}
		for range 2000 {
			line := c.line()
			got, e := order.Parse(line)
			if want, e2 := parseAgain(line); e != e2 || !same(got, want) {
				t.Fatalf("Parse(%q) = %+v, %d; want %+v, %d", line, got, e, want, e2)
			}
			kind := slices.IndexFunc(saids(), func(x said) bool { return strings.HasPrefix(line, strings.Fields(x.line)[0]) })
			if met[kind] == nil {
				met[kind] = map[api.Errno]int{}
			}
			met[kind][e]++
			if e != api.OK {
				continue
			}
			own, e := order.Print(got)
			again, e2 := order.Parse(own)
			own2, e3 := order.Print(again)
			if e != api.OK || e2 != api.OK || e3 != api.OK || !same(again, got) || own2 != own || strings.Contains(own, "  ") || strings.TrimSpace(own) != own {
				t.Fatalf("%q is printed as %q, %d, which says %+v, %d", line, own, e, again, e2)
			}
		}
	}
	for kind := range 10 {
		for _, e := range []api.Errno{api.OK, api.ErrLong, api.ErrBad, api.ErrForm, api.ErrLine} {
			if met[kind][e] < 10 {
				t.Errorf("of the kind %d only %d lines were answered %d", kind+1, met[kind][e], e)
			}
		}
	}
}

// P20.2, P20.4: commands by chance: which are formed, and that their lines say them again.
func TestCommandsByChance(t *testing.T) {
	met := map[int][2]int{}
	for seed := range int64(40) {
		c := &chances{rand.New(rand.NewSource(100 + seed)), []int{4, 10, 40, 200}[seed%4]}
		for range 2000 {
			x := c.command()
			counts := met[x.Kind]
			if formedAgain(x) {
				counts[0]++
				holds(t, "by chance", x)
			} else {
				counts[1]++
				printsNot(t, "by chance", x)
			}
			met[x.Kind] = counts
			if t.Failed() {
				return
			}
		}
	}
	for kind := -1; kind <= 12; kind++ {
		if met[kind][1] < 50 || kind >= 1 && kind <= 10 && met[kind][0] < 1000 {
			t.Errorf("of the kind %d formed and not were %v", kind, met[kind])
		}
	}
}

// P20.1: any bytes are answered, and nothing but a command's line by a command.
func TestAnyBytes(t *testing.T) {
	r := rand.New(rand.NewSource(20))
	taken := 0
	for range 60000 {
		line := []byte(saids()[r.Intn(10)].line)
		for range r.Intn(3) {
			i := r.Intn(len(line) + 1)
			switch r.Intn(3) {
			case 0:
				line = slices.Insert(line, i, byte(r.Intn(256)))
			case 1:
				line = slices.Insert(line, i, `01 :,-"\a`[r.Intn(9)])
			case 2:
				line = slices.Delete(line, max(i-1, 0), i)
			}
		}
		got, e := order.Parse(string(line))
		if want, e2 := parseAgain(string(line)); e != e2 || !same(got, want) {
			t.Fatalf("Parse(%q) = %+v, %d; want %+v, %d", line, got, e, want, e2)
		}
		if e == api.OK {
			taken++
		}
	}
	if taken < 10000 || taken > 50000 {
		t.Errorf("%d lines are commands", taken)
	}
}
