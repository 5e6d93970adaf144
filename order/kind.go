package order

// The kinds of commands.
const (
	tenant = iota + 1
	submit
	cancel
	query
	up
	beat
	done
	fail
	tick
	nodes
)

// A form is what the words of a kind's line have to be: which is the first, how many there are, and whether there may be more.
type form struct {
	first string
	count int
	more  bool
}

var forms = [...]form{
	tenant: {first: "tenant", count: 4},
	submit: {first: "submit", count: 7, more: true},
	cancel: {first: "cancel", count: 2},
	query:  {first: "query", count: 2},
	up:     {first: "up", count: 4},
	beat:   {first: "beat", count: 3},
	done:   {first: "done", count: 5},
	fail:   {first: "fail", count: 5},
	tick:   {first: "tick", count: 1},
	nodes:  {first: "nodes", count: 1},
}

// kindOf is the kind of a line of these words; 0, if there is none.
func kindOf(words []string) int {
	for kind := tenant; kind <= nodes; kind++ {
		if forms[kind].has(words) {
			return kind
		}
	}
	return 0
}

func (f form) has(words []string) bool {
	return (len(words) == f.count || f.more && len(words) > f.count) && words[0] == f.first
}
