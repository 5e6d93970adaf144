package order_test

import (
	"math/rand"
	"strings"
	"testing"

	"drover/api"
	"drover/order"
	"drover/runes"
)

// P20.1: a line of no words is none of the table's.
func TestNoWords(t *testing.T) {
	parsesNot(t, api.ErrLine, "", " ", "  ", strings.Repeat(" ", api.MaxLine), `""`, `"" ""`, `"" 1`)
}

// P20.1: one word too few, one too many, and others; of each kind.
func TestHowManyWords(t *testing.T) {
	for _, x := range saids() {
		words := strings.Fields(x.line)
		for n := range len(words) {
			if n == len("fnannlv") && x.c.Kind == 2 {
				continue // a submit of one task
			}
			parsesNot(t, api.ErrLine, strings.Join(words[:n], " "))
		}
		for _, more := range []string{" 1", " 1:2:3:4", " -", " a", ` ""`, " tick", " 1 2"} {
			if x.c.Kind != 2 {
				parsesNot(t, api.ErrLine, x.line+more)
			}
		}
		if x.c.Kind != 9 && x.c.Kind != 10 {
			parsesNot(t, api.ErrLine, strings.Join(words[1:], " "))
		}
	}
	parsesNot(t, api.ErrLine, "submit", "submit 3 alice 5 10", "submit 3 alice 5 10 -", "tick tick", "nodes tick")
}

// P20.1, P20.2: a submit of each number of tasks; of more than MaxTasks its job isn't formed.
func TestHowManyTasks(t *testing.T) {
	line := "submit 3 a 0 1 -"
	c := order.Command{Kind: 2, Job: api.Job{ID: 3, Tenant: "a", Runtime: 1}}
	parsesNot(t, api.ErrLine, line)
	printsNot(t, "no tasks", c)
	for n := range int64(60) {
		line += " 1:0:0:" + string(rune('0'+n%10))
		c.Job.Tasks = append(c.Job.Tasks, api.Vector{1, 0, 0, n % 10})
		if n < api.MaxTasks {
			parses(t, line, c)
			prints(t, c, line)
			continue
		}
		parsesNot(t, api.ErrForm, line)
		printsNot(t, "too many tasks", c)
	}
}

// P20.1: a first word that is none of the table's, or not quite, with each number of words.
func TestFirstWord(t *testing.T) {
	for _, first := range []string{"halt", "tic", "ticks", "Tick", "TICK", "tíck", "node", "nodess", "τick", "-", "0", "1", "tenants", "launch", "kill", "job", `""`, `"tick "`, `" tick"`, `"tick\\"`} {
		for _, rest := range []string{"", " 1", " a 1", " a 1 1:2:3:4", " a 1 2 3", " 3 alice 5 10 - 1:0:0:0", " 3 alice 5 10 - 1:0:0:0 1:0:0:0"} {
			parsesNot(t, api.ErrLine, first+rest)
		}
	}
	for _, x := range saids() {
		words := strings.Fields(x.line)
		for _, first := range []string{words[0][1:], words[0][:len(words[0])-1], words[0] + "s", "x" + words[0], strings.ToUpper(words[0]), strings.ToUpper(words[0][:1]) + words[0][1:], words[0] + words[0], words[0] + "\u0301"} {
			parsesNot(t, api.ErrLine, x.with(0, first))
		}
	}
	for _, x := range saids() {
		for _, y := range saids() {
			if _, e := order.Parse(y.with(0, strings.Fields(x.line)[0])); (e == api.ErrLine) != (x.roles != y.roles && (x.c.Kind != 2 || len(y.roles) < 7)) {
				t.Errorf("%q with the first word of %q: %d", y.line, x.line, e)
			}
		}
	}
}

// P20.1: what is no text, and what has no words, is refused as layer 1 does.
func TestErrorOfWords(t *testing.T) {
	parsesNot(t, api.ErrBad, "\xff", "tick\xff", "\x80tick", "tick \xc3", "beat \xed\xa0\x80 1", "beat a\xf4\x90\x80\x80 1", "beat \xc1\xa1 1")
	parsesNot(t, api.ErrForm, "\n", "tick\n", "tick\r", "\ttick", "tick\x00", "\x7ftick", "beat a\x1f 1", "beat\t1\t1",
		`"`, `tick"`, `"tick`, `"tick"x`, `ti"ck`, `"ti\ck"`, `"tick\`, `"tick\"`, `beat "a"1`, `beat "a" 1"`)
	// Which fault comes first is which error it is.
	parsesNot(t, api.ErrBad, "tick\xff\n", "\xff\"", "\"\xff", "a\"\xff")
	parsesNot(t, api.ErrForm, "tick\n\xff", "\x00\xff", "a\"\n")
	r := rand.New(rand.NewSource(201))
	pieces := []string{"tick", "beat", "a", "1", " ", `"`, `\`, "\xff", "\n", "α", "\xce", "\x7f"}
	met := map[api.Errno]int{}
	for range 20000 {
		line := ""
		for range r.Intn(8) {
			line += pieces[r.Intn(len(pieces))]
		}
		if _, _, e := runes.Words(line); e != api.OK {
			parsesNot(t, e, line)
			met[e]++
		}
	}
	if met[api.ErrBad] < 1000 || met[api.ErrForm] < 1000 {
		t.Errorf("of the lines that have no words were refused %v", met)
	}
}

// P20.1: a line has at most MaxLine bytes; what is told of bytes is not told of runes or words.
func TestLongLines(t *testing.T) {
	for _, x := range saids() {
		spaces := strings.Repeat(" ", api.MaxLine-len(x.line))
		for _, line := range []string{x.line + spaces, spaces + x.line, spaces[1:] + x.line + " "} {
			if len(line) != 512 {
				t.Fatalf("%q has %d bytes", line, len(line))
			}
			parses(t, line, x.c)
			parsesNot(t, api.ErrLong, line+" ", " "+line, line+"x", line+"\xff", line+"\n", line+`"`)
		}
	}
	list := "submit 3 a 0 1 1" + strings.Repeat(",1", 240) + ",2 1:0:0:0"
	c := order.Command{Kind: 2, Job: api.Job{ID: 3, Tenant: "a", Runtime: 1, Parents: []int64{1, 2}, Tasks: []api.Vector{{1}}}}
	parses(t, list+strings.Repeat(" ", api.MaxLine-len(list)), c)
	parsesNot(t, api.ErrLong, list+strings.Repeat(" ", api.MaxLine-len(list)+1))
	parsesNot(t, api.ErrLine, strings.Repeat("a", 512), strings.Repeat("α", 256), strings.Repeat("a ", 256), strings.Repeat("😀", 128))
	parsesNot(t, api.ErrLong, strings.Repeat("a", 513), strings.Repeat("α", 257), "a"+strings.Repeat("α", 256), strings.Repeat(" ", 513), strings.Repeat("\xff", 513), strings.Repeat("tick ", 1<<16))
	parsesNot(t, api.ErrBad, strings.Repeat("\xff", 512))
}

// P20.2: no formed command's line comes near MaxLine: this is the longest one.
func TestLongestLine(t *testing.T) {
	all := api.Vector{top, top, top, top}
	c := order.Command{Kind: 2, Job: api.Job{ID: 99, Tenant: strings.Repeat("α", 16), Priority: 100, Runtime: 1000, Parents: []int64{96, 97, 98, 100}, Tasks: []api.Vector{all, all, all, all, all, all}}}
	if line, e := order.Print(c); len(line) != 400 || e != api.OK {
		t.Errorf("Print = %q, %d: %d bytes", line, e, len(line))
	}
}

// P20.1, R2: where several are at fault the answer is of the first. Each kind's line has all words unformed, then one at a time that isn't what it should be, then too many, then no words, then too many bytes.
func TestFirstError(t *testing.T) {
	worst := map[byte]string{'a': "A", 'n': number, 'v': number + ":0:0:0", 'l': "0"}
	spaces := strings.Repeat(" ", api.MaxLine)
	for _, x := range saids() {
		words := strings.Fields(x.line)
		for i, role := range []byte(x.roles) {
			if role != 'f' {
				words[i] = worst[role]
			}
		}
		if len(words) > 1 {
			parsesNot(t, api.ErrForm, strings.Join(words, " "))
		}
		lines := []string{strings.Join(words, " ")}
		for i, role := range []byte(x.roles) {
			if role != 'f' && role != 'a' {
				was := words[i]
				words[i] = "x"
				lines = append(lines, strings.Join(words, " "))
				parsesNot(t, api.ErrBad, lines[len(lines)-1])
				words[i] = was
			}
		}
		for _, line := range lines {
			first := strings.Fields(line)[0]
			none := strings.Replace(line, first, "x"+first, 1)
			parsesNot(t, api.ErrLine, none)
			if x.c.Kind != 2 {
				parsesNot(t, api.ErrLine, line+" x", line+" 0")
			}
			parsesNot(t, api.ErrForm, line+"\n", line+" \x00\xff", line+`"`, line+` "x`, none+"\n", none+`"`)
			parsesNot(t, api.ErrBad, line+"\xff", line+" \xff\n", none+"\xff")
			parsesNot(t, api.ErrLong, line+spaces, none+spaces, line+"\n"+spaces, line+"\xff"+spaces, spaces+line+`"`)
		}
	}
	parsesNot(t, api.ErrBad, "submit 0 A 101 0 3 1:0:0", "submit x A 101 0 3 1:0:0:0", "up A 0 1:1:1:x", "done A 0 0 x", "tenant A x 1:1:1:1", "tenant A 0 1:1:1")
	parsesNot(t, api.ErrLine, "submit x A x x x", "cancel x 0", "tick x", "beat A", "beat A x x")
}
