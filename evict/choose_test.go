package evict_test

import (
	"fmt"
	"math"
	"slices"
	"strconv"
	"strings"
	"testing"

	"drover/api"
	"drover/evict"
	"drover/place"
)

// call is what is handed in to Choose.
type call struct {
	tasks    []api.Vector
	priority int64
	victims  []evict.Victim
	slots    []place.Slot
}

func (c call) choose() ([]int64, []string, api.Errno) {
	return evict.Choose(c.tasks, c.priority, c.victims, c.slots...)
}

// text is the call as one can read it, and no more than its first tasks and slots.
func (c call) text() string {
	var slots strings.Builder
	for _, s := range c.slots[:min(len(c.slots), 12)] {
		fmt.Fprintf(&slots, "{%.20q: %d}", s.Node, s.Free)
	}
	return fmt.Sprintf("Choose(%d, %d, %s, %s)", c.tasks[:min(len(c.tasks), 8)], c.priority, shown(c.victims), slots.String())
}

// chooses asks that Choose answers these jobs and nodes.
func chooses(t *testing.T, c call, gone []int64, nodes ...string) {
	t.Helper()
	jobs, where, e := c.choose()
	if !slices.Equal(jobs, gone) || !slices.Equal(where, nodes) || e != api.OK {
		t.Fatalf("%s = %d, %.40q, %d, not %d, %.40q", c.text(), first(jobs), where, e, first(gone), nodes)
	}
}

// refuses asks that Choose refuses so.
func refuses(t *testing.T, want api.Errno, c call) {
	t.Helper()
	if jobs, where, e := c.choose(); len(jobs) != 0 || len(where) != 0 || e != want {
		t.Fatalf("%s = %d, %.40q, %d, not %d", c.text(), first(jobs), where, e, want)
	}
}

// P17.2: where there is room nobody goes, where there isn't and nobody runs there is none.
func TestNoVictim(t *testing.T) {
	for _, victims := range [][]evict.Victim{nil, {}} {
		for _, priority := range ends() {
			chooses(t, call{gang(1, 3, 2), priority, victims, []place.Slot{slot("a", 3), slot("b", 3)}}, nil, "b", "a", "b")
			chooses(t, call{gang(0), priority, victims, []place.Slot{slot("")}}, nil, "")
			refuses(t, api.ErrFull, call{gang(2, 2), priority, victims, []place.Slot{slot("a", 3)}})
			refuses(t, api.ErrFull, call{gang(0), priority, victims, nil})
		}
	}
}

// P17.2: one victim goes, if there is no room without it and there is with it.
func TestOneVictim(t *testing.T) {
	victims := []evict.Victim{runs(7, 0, 0, "a", 3)}
	slots := []place.Slot{slot("a", 1), slot("b", 2)}
	chooses(t, call{gang(1), 1, victims, slots}, nil, "a")
	chooses(t, call{gang(2), 1, victims, slots}, nil, "b")
	chooses(t, call{gang(2, 1), 1, victims, slots}, nil, "b", "a")
	chooses(t, call{gang(3), 1, victims, slots}, []int64{7}, "a")
	chooses(t, call{gang(4), 1, victims, slots}, []int64{7}, "a")
	chooses(t, call{gang(2, 4), 1, victims, slots}, []int64{7}, "b", "a")
	refuses(t, api.ErrFull, call{gang(5), 1, victims, slots})
	refuses(t, api.ErrFull, call{gang(3, 4), 1, victims, slots})
	refuses(t, api.ErrFull, call{gang(3), 0, victims, slots})
}

// P17.2: of many the first so many go, one more for each unit that is asked for; not even all of them make more room than there is.
func TestManyVictims(t *testing.T) {
	var victims []evict.Victim
	var turns []int64
	for i := range int64(300) {
		// Priorities rise, of like ones starts rise: the latest is first.
		victims = append(victims, runs(i, i/3, i%3, "a", 1))
		turns = append(turns, i/3*3+2-i%3)
	}
	for n := range 301 {
		chooses(t, call{gang(int64(n)), 100, victims, []place.Slot{slot("a")}}, turns[:n], "a")
	}
	refuses(t, api.ErrFull, call{gang(301), 100, victims, []place.Slot{slot("a")}})
	for _, n := range []int64{0, 1, 50, 99, 100} {
		chooses(t, call{gang(3 * n), n, victims, []place.Slot{slot("a")}}, turns[:3*n], "a")
		refuses(t, api.ErrFull, call{gang(3*n + 1), n, victims, []place.Slot{slot("a")}})
	}
}

// P17.2: more victims may have to go than a heap has handles.
func TestVeryManyToGo(t *testing.T) {
	victims := make([]evict.Victim, 1<<20+2)
	turns := make([]int64, len(victims))
	task, node := gang(1), []string{"a"}
	for i := range victims {
		victims[i] = evict.Victim{Job: int64(i), Tasks: task, Nodes: node}
		turns[len(turns)-1-i] = int64(i)
	}
	chooses(t, call{gang(int64(len(victims))), 1, victims, []place.Slot{slot("a")}}, turns, "a")
}

// P17.2: who goes is by turns alone: those whose going doesn't help go too, if their turn is ahead of that of one who does help.
func TestByTurnsAlone(t *testing.T) {
	slots := []place.Slot{slot("a"), slot("b"), slot("c")}
	victims := []evict.Victim{runs(1, 3, 0, "b", 5), runs(2, 2, 0, "c", 1), runs(3, 1, 0, "a", 2), runs(4, 0, 0, "c", 2)}
	chooses(t, call{gang(5), 9, victims, slots}, []int64{4, 3, 2, 1}, "b")
	chooses(t, call{gang(3), 9, victims, slots}, []int64{4, 3, 2}, "c")
	chooses(t, call{gang(2, 2), 9, victims, slots}, []int64{4, 3}, "a", "c")
	chooses(t, call{gang(2), 9, victims, slots}, []int64{4}, "c")
	chooses(t, call{gang(0), 9, victims, slots}, nil, "a")
	refuses(t, api.ErrFull, call{gang(5), 3, victims, slots})
	refuses(t, api.ErrFull, call{gang(6), 9, victims, slots})
}

// P17.2: the jobs are answered in their turns, not as they were handed in or numbered: in every order of few.
func TestChooseInEveryOrder(t *testing.T) {
	all := []evict.Victim{runs(5, 0, 9, "a", 1), runs(9, 0, 3, "b", 1), runs(4, 0, 3, "a", 1, 1), runs(8, 1, 7, "b", 2), runs(1, 9, 9, "a", 9)}
	slots := []place.Slot{slot("a", 0, 1), slot("b", 1)}
	count := 0
	orders(all, func(victims []evict.Victim) {
		chooses(t, call{gang(1), 9, victims, slots}, nil, "b")
		chooses(t, call{gang(1, 1), 9, victims, slots}, []int64{5}, "a", "b")
		chooses(t, call{gang(2), 9, victims, slots}, []int64{5, 9}, "b")
		chooses(t, call{gang(2, 2), 9, victims, slots}, []int64{5, 9, 4}, "a", "b")
		chooses(t, call{[]api.Vector{vec(0, 2)}, 9, victims, slots}, []int64{5, 9, 4}, "a")
		chooses(t, call{gang(4), 9, victims, slots}, []int64{5, 9, 4, 8}, "b")
		refuses(t, api.ErrFull, call{gang(4), 1, victims, slots})
		refuses(t, api.ErrFull, call{gang(5), 9, victims, slots})
		chooses(t, call{gang(5), 10, victims, slots}, []int64{5, 9, 4, 8, 1}, "a")
		count++
	})
	if count != 120 {
		t.Fatalf("%d orders", count)
	}
}

// P17.2, P17.3: those go whose priority is below, not alike and not above, at least and greatest numbers too.
func TestPriorities(t *testing.T) {
	slots := []place.Slot{slot("a", 1)}
	rising := ends()
	for _, priority := range rising {
		for _, other := range rising {
			c := call{gang(2), priority, []evict.Victim{runs(1, other, 0, "a", 1)}, slots}
			if other < priority {
				chooses(t, c, []int64{1}, "a")
			} else {
				refuses(t, api.ErrFull, c)
			}
			chooses(t, call{gang(1), priority, c.victims, slots}, nil, "a")
		}
	}
	for _, p := range []int64{math.MinInt64 + 1, -5, 0, 50, api.MaxPriority, math.MaxInt64 - 1} {
		orders([]evict.Victim{runs(1, p-1, 0, "a", 1), runs(2, p, 0, "a", 1), runs(3, p+1, 0, "a", 1)}, func(victims []evict.Victim) {
			chooses(t, call{gang(2), p, victims, slots}, []int64{1}, "a")
			refuses(t, api.ErrFull, call{gang(3), p, victims, slots})
			chooses(t, call{gang(3), p + 1, victims, slots}, []int64{1, 2}, "a")
			refuses(t, api.ErrFull, call{gang(4), p + 1, victims, slots})
			refuses(t, api.ErrFull, call{gang(2), p - 1, victims, slots})
		})
	}
}

// P17.2: all who are below and who are not are many, and stand in each other's way.
func TestAmongOthers(t *testing.T) {
	var victims []evict.Victim
	for i := range int64(100) {
		victims = append(victims, runs(i, (i*37)%100, i, strconv.FormatInt(i%4, 10), 1))
	}
	slots := []place.Slot{slot("0"), slot("1"), slot("2"), slot("3")}
	for n := range int64(100) {
		var want []int64
		for p := range n {
			want = append(want, (p*73)%100)
		}
		// Of each node a fourth runs: the gang that takes all that those below have is the greatest that finds room.
		var tasks []api.Vector
		for node := range int64(4) {
			free := int64(0)
			for _, job := range want {
				if job%4 == node {
					free++
				}
			}
			tasks = append(tasks, vec(free))
		}
		gone, _, e := call{tasks, n, victims, slots}.choose()
		if !slices.Equal(gone, want) || e != api.OK {
			t.Fatalf("below %d go %d, %d, not %d", n, gone, e, want)
		}
		tasks[n%4][0]++
		refuses(t, api.ErrFull, call{tasks, n, victims, slots})
	}
}

// P17.2: the first so many will do, though with more of them there would be no room: a task that finds another slot is in the way of the next.
func TestMoreMayBeWorse(t *testing.T) {
	tasks := []api.Vector{vec(2), vec(1, 5)}
	slots := []place.Slot{slot("a", 1, 5), slot("b", 1)}
	onB, onA := runs(1, 0, 0, "b", 1), runs(2, 1, 0, "a", 1)
	chooses(t, call{tasks, 9, []evict.Victim{onA, onB}, slots}, []int64{1}, "b", "a")
	// The other way round both have to go, and there is no room behind either.
	onB.Priority = 2
	refuses(t, api.ErrFull, call{tasks, 9, []evict.Victim{onA, onB}, slots})
	// A third one makes up for it.
	third := runs(3, 3, 0, "a", 1)
	chooses(t, call{tasks, 9, []evict.Victim{third, onA, onB}, slots}, []int64{2, 1, 3}, "a", "a")
	// Who finds room at once needs nobody's going, though there would be none behind it.
	slots[1].Free[0] = 2
	chooses(t, call{tasks, 9, []evict.Victim{onA}, slots}, nil, "b", "a")
}

// P17.2: gangs of several tasks give back on several nodes, all of them, and find room on several.
func TestGangs(t *testing.T) {
	slots := []place.Slot{slot("a"), slot("b", 0, 1), slot("c", 1)}
	both := evict.Victim{Job: 1, Tasks: []api.Vector{vec(2), vec(3), vec(0, 0, 4), vec(1, 1)}, Nodes: []string{"a", "b", "b", "a"}}
	other := evict.Victim{Job: 2, Priority: 1, Tasks: gang(1, 1, 1, 1, 1, 1), Nodes: []string{"c", "c", "a", "b", "c", "c"}}
	victims := []evict.Victim{other, both}
	chooses(t, call{[]api.Vector{vec(3, 1), vec(3, 1, 4), vec(1)}, 2, victims, slots}, []int64{1}, "a", "b", "c")
	chooses(t, call{[]api.Vector{vec(1), vec(3, 1, 4)}, 2, victims, slots}, []int64{1}, "a", "b")
	chooses(t, call{gang(5, 4, 4), 2, victims, slots}, []int64{1, 2}, "c", "a", "b")
	chooses(t, call{gang(1, 1, 1, 1, 1, 1), 2, victims, slots}, []int64{1}, "a", "a", "a", "b", "b", "b")
	refuses(t, api.ErrFull, call{gang(5, 4, 5), 2, victims, slots})
	refuses(t, api.ErrFull, call{gang(5), 1, victims, slots})
}

// P17.2: room is of each resource, up to the last unit.
func TestEachResource(t *testing.T) {
	for i := range 4 {
		part := func(n int64) []int64 {
			var v api.Vector
			v[i] = n
			return v[:]
		}
		victims := []evict.Victim{runs(1, 0, 0, "a", part(2)...), runs(2, 0, 0, "a", part(3)...)}
		slots := []place.Slot{slot("a", part(1)...)}
		for n, gone := range [][]int64{nil, nil, {2}, {2}, {2}, {2, 1}, {2, 1}} {
			chooses(t, call{[]api.Vector{vec(part(int64(n))...)}, 1, victims, slots}, gone, "a")
		}
		refuses(t, api.ErrFull, call{[]api.Vector{vec(part(7)...)}, 1, victims, slots})
		task := vec(part(3)...)
		task[(i+1)%4] = 1
		refuses(t, api.ErrFull, call{[]api.Vector{task}, 1, victims, slots})
	}
}

// P17.2: what the first of the victims give back is all that they have, at MaxAmount too.
func TestWholeNode(t *testing.T) {
	all := vec(top, top, top, top)
	victims := []evict.Victim{runs(1, 0, 0, "a", top-1, top, 0, top), runs(2, 0, 0, "a", 1, 0, top)}
	chooses(t, call{[]api.Vector{all}, 1, victims, []place.Slot{slot("a")}}, []int64{2, 1}, "a")
	refuses(t, api.ErrFull, call{[]api.Vector{all, vec(1)}, 1, victims, []place.Slot{slot("a")}})
	chooses(t, call{[]api.Vector{all, all}, 1, victims, []place.Slot{slot("a"), {Node: "b", Free: all}}}, []int64{2, 1}, "a", "b")
}

// P17.2: any bytes are a node's name.
func TestStrangeNames(t *testing.T) {
	names := []string{"", "\x00", "a", "A", "a\x00", "\xff", "é", "e\u0301", "\U0010ffff", "a b"}
	var slots []place.Slot
	var victims []evict.Victim
	for i, name := range names {
		slots = append(slots, slot(name))
		victims = append(victims, runs(int64(i), int64(-i), 0, name, int64(i+1)))
	}
	for i, name := range names {
		var gone []int64
		for k := len(names) - 1; k >= i; k-- {
			gone = append(gone, int64(k))
		}
		one := append(slices.Clone(victims[:i]), runs(int64(i), int64(-i), 0, name, 50))
		chooses(t, call{gang(50), 1, append(one, victims[i+1:]...), slots}, gone, name)
	}
}
