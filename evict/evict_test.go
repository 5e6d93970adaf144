package evict_test

import (
	"fmt"
	"math"
	"math/rand"
	"slices"
	"strings"
	"testing"

	"drover/api"
	"drover/evict"
	"drover/place"
)

const top = api.MaxAmount

func vec(numbers ...int64) api.Vector {
	var v api.Vector
	copy(v[:], numbers)
	return v
}

func slot(node string, free ...int64) place.Slot {
	return place.Slot{Node: node, Free: vec(free...)}
}

// gang is tasks of the first resource alone.
func gang(numbers ...int64) []api.Vector {
	var tasks []api.Vector
	for _, n := range numbers {
		tasks = append(tasks, vec(n))
	}
	return tasks
}

// runs is a victim of one task on one node.
func runs(job, priority, start int64, node string, task ...int64) evict.Victim {
	return evict.Victim{Job: job, Priority: priority, Start: start, Tasks: []api.Vector{vec(task...)}, Nodes: []string{node}}
}

// bare is a victim without tasks, which none but Turns takes.
func bare(job, priority, start int64) evict.Victim {
	return evict.Victim{Job: job, Priority: priority, Start: start}
}

// shown is victims as text, and no more than the first ones.
func shown(l []evict.Victim) string {
	var out strings.Builder
	for i, v := range l {
		if i == 12 {
			fmt.Fprintf(&out, " and %d more", len(l)-i)
			break
		}
		fmt.Fprintf(&out, "{%d: %d from %d, %v on %.20q}", v.Job, v.Priority, v.Start, v.Tasks, v.Nodes)
	}
	return out.String()
}

// first are no more numbers than one can read.
func first(l []int64) []int64 {
	return l[:min(len(l), 20)]
}

// inTurns asks that Turns answers these jobs.
func inTurns(t *testing.T, victims []evict.Victim, want ...int64) {
	t.Helper()
	if got, e := evict.Turns(victims...); !slices.Equal(got, want) || e != api.OK {
		t.Fatalf("Turns(%s) = %d, %d, not %d", shown(victims), first(got), e, first(want))
	}
}

// noTurns asks that Turns finds two of one job.
func noTurns(t *testing.T, victims ...evict.Victim) {
	t.Helper()
	if got, e := evict.Turns(victims...); len(got) != 0 || e != api.ErrTwice {
		t.Fatalf("Turns(%s) = %d, %d, not ErrTwice", shown(victims), first(got), e)
	}
}

// orders calls each with every order of l.
func orders[T any](l []T, each func([]T)) {
	var grow func(done, left []T)
	grow = func(done, left []T) {
		if len(left) == 0 {
			each(done)
			return
		}
		for i, x := range left {
			grow(append(slices.Clone(done), x), slices.Delete(slices.Clone(left), i, i+1))
		}
	}
	grow(nil, l)
}

// ends are the least and the greatest numbers, and those around 0, rising.
func ends() []int64 {
	return []int64{math.MinInt64, math.MinInt64 + 1, -1, 0, 1, math.MaxInt64 - 1, math.MaxInt64}
}

// P17.1, P17.2: the chapter's examples.
func TestExamples(t *testing.T) {
	victims := []evict.Victim{runs(1, 0, 5, "a", 2), runs(2, 0, 7, "a", 1), runs(3, 9, 0, "a", 4)}
	inTurns(t, victims, 2, 1, 3)
	for _, x := range []struct {
		task int64
		gone []int64
	}{{2, []int64{2}}, {4, []int64{2, 1}}, {1, nil}} {
		chooses(t, call{gang(x.task), 5, victims, []place.Slot{slot("a", 1)}}, x.gone, "a")
	}
	refuses(t, api.ErrFull, call{gang(5), 5, victims, []place.Slot{slot("a", 1)}})
}

// P17.1: no victim, one, and many.
func TestHowManyVictims(t *testing.T) {
	inTurns(t, nil)
	inTurns(t, []evict.Victim{})
	for _, n := range ends() {
		inTurns(t, []evict.Victim{bare(n, n, n)}, n)
	}
	var victims []evict.Victim
	var want []int64
	for i := range int64(5000) {
		victims = append(victims, bare(i, i/500, i%500/50))
		want = append(want, i/500*500+499-i%500)
	}
	rand.New(rand.NewSource(171)).Shuffle(len(victims), func(i, j int) { victims[i], victims[j] = victims[j], victims[i] })
	inTurns(t, victims, want...)
}

// P17.1: there may be more victims than a heap has handles.
func TestVeryManyVictims(t *testing.T) {
	const many = 1<<20 + 1
	victims := make([]evict.Victim, 0, many+1)
	want := []int64{-1}
	for i := range int64(many) {
		// 7919 is a prime that does not divide many: each number is met once, and they neither rise nor fall.
		victims = append(victims, bare(i*7919%many, 0, 0))
		want = append(want, many-1-i)
	}
	victims = append(victims, bare(-1, -1, 0))
	inTurns(t, victims, want...)
	victims[many].Job = victims[0].Job
	noTurns(t, victims...)
}

// P17.1: the least priority is first, of like priorities the latest start, of like starts the greatest number; each alone, at least and greatest numbers too.
func TestEachAlone(t *testing.T) {
	var byPriority, byStart, byJob []evict.Victim
	rising := ends()
	for i, n := range rising {
		byPriority = append(byPriority, bare(int64(i), n, 5))
		byStart = append(byStart, bare(int64(i), 5, n))
		byJob = append(byJob, bare(n, 5, 5))
	}
	falling := slices.Clone(rising)
	slices.Reverse(falling)
	r := rand.New(rand.NewSource(172))
	for range 200 {
		inTurns(t, byPriority, 0, 1, 2, 3, 4, 5, 6)
		inTurns(t, byStart, 6, 5, 4, 3, 2, 1, 0)
		inTurns(t, byJob, falling...)
		for _, l := range [][]evict.Victim{byPriority, byStart, byJob} {
			r.Shuffle(len(l), func(i, j int) { l[i], l[j] = l[j], l[i] })
		}
	}
}

// P17.1: what comes first is weighed first: a start counts only of like priorities, a number only of like starts, however far they are from one another.
func TestAllTogether(t *testing.T) {
	least, most := int64(math.MinInt64), int64(math.MaxInt64)
	inTurns(t, []evict.Victim{bare(most, 1, most), bare(least, 0, least)}, least, most)
	inTurns(t, []evict.Victim{bare(most, 1, 0), bare(least, 1, 1)}, least, most)
	inTurns(t, []evict.Victim{bare(least, most, most), bare(most, least, least)}, most, least)
	inTurns(t, []evict.Victim{bare(most, -1, least), bare(least, -1, most)}, least, most)
	// 27 victims of all that there may be of two numbers, their jobs being numbered by their turns, falling and rising.
	for _, sign := range []int64{1, -1} {
		var victims []evict.Victim
		var want []int64
		for _, priority := range []int64{least, 0, most} {
			for _, start := range []int64{most, 0, least} {
				for i := range int64(3) {
					n := 100*sign*int64(len(want)/3) - i
					victims, want = append(victims, bare(n, priority, start)), append(want, n)
				}
			}
		}
		r := rand.New(rand.NewSource(173))
		for range 100 {
			r.Shuffle(len(victims), func(i, j int) { victims[i], victims[j] = victims[j], victims[i] })
			inTurns(t, victims, want...)
		}
	}
}

// P17.1: every order of few has the same turns.
func TestEveryOrder(t *testing.T) {
	count := 0
	orders([]evict.Victim{bare(9, 0, 7), bare(4, 0, 7), bare(5, 0, 3), bare(1, 2, 9), bare(8, 2, 0), bare(2, 3, 99)}, func(victims []evict.Victim) {
		inTurns(t, victims, 9, 4, 5, 1, 8, 2)
		count++
	})
	if count != 720 {
		t.Fatalf("%d orders", count)
	}
}

// P17.1: two victims of one job are refused wherever they stand, be they like in all else or in nothing.
func TestTwoOfOneJob(t *testing.T) {
	for _, n := range []int{2, 3, 6} {
		for i := range n {
			for k := range i {
				for _, job := range ends() {
					var victims []evict.Victim
					for x := range n {
						victims = append(victims, bare(int64(x)+10, int64(x)%3, int64(x)%2))
					}
					inTurnsOfAll(t, victims)
					victims[i].Job, victims[k].Job = job, job
					noTurns(t, victims...)
					victims[i] = victims[k]
					noTurns(t, victims...)
					victims[i] = runs(job, math.MinInt64, math.MaxInt64, "a", -1)
					noTurns(t, victims...)
				}
			}
		}
	}
	noTurns(t, bare(0, 0, 0), bare(0, 0, 0), bare(0, 0, 0))
}

// inTurnsOfAll asks that Turns answers each job once.
func inTurnsOfAll(t *testing.T, victims []evict.Victim) {
	t.Helper()
	var jobs []int64
	for _, v := range victims {
		jobs = append(jobs, v.Job)
	}
	slices.Sort(jobs)
	got, e := evict.Turns(victims...)
	if slices.Sort(got); !slices.Equal(got, jobs) || e != api.OK {
		t.Fatalf("Turns(%s) = %d in some order, %d", shown(victims), got, e)
	}
}

// P17.1: tasks and nodes are nothing to the turns, right or wrong.
func TestTurnsWithoutTasks(t *testing.T) {
	wrong := runs(3, 1, 1, "nobody", -1, top+1)
	wrong.Nodes = nil
	inTurns(t, []evict.Victim{runs(1, 1, 1, "", top), wrong, bare(2, 1, 1), runs(4, 1, 1, "z", -5)}, 4, 3, 2, 1)
}
