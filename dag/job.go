package dag

// state is what became of a job.
type state uint8

const (
	absent state = iota // so that the zero Graph has no jobs
	open
	done
	failed
)

// job is what is kept of a number; nothing, while there is no such job.
type job struct {
	state   state
	parents set
}

// has tells whether there is such a job; a nil graph has none.
func (g *Graph) has(id int64) bool {
	return g != nil && isNumber(id) && g.jobs[id].state != absent
}

// isFree asks of a number whether its job is open and all its parents are there and done.
func (g *Graph) isFree(id int64) bool {
	if g.jobs[id].state != open {
		return false
	}
	for parent, is := range g.jobs[id].parents {
		if is && g.jobs[parent].state != done {
			return false
		}
	}
	return true
}

// anyFailed tells whether one of these numbers' jobs is there and has failed.
func (g *Graph) anyFailed(ids set) bool {
	for id, is := range ids {
		if is && g.jobs[id].state == failed {
			return true
		}
	}
	return false
}

// lineage answers these numbers, and all from which their jobs descend.
func (g *Graph) lineage(ids set) set {
	var seen set
	todo := ids.list()
	for len(todo) > 0 {
		id := todo[len(todo)-1]
		todo = todo[:len(todo)-1]
		if seen[id] {
			continue
		}
		seen[id] = true
		todo = append(todo, g.jobs[id].parents.list()...)
	}
	return seen
}

// freed answers the children of a job that are free.
func (g *Graph) freed(id int64) set {
	var free set
	for child := range g.jobs {
		free[child] = g.jobs[child].parents[id] && g.isFree(int64(child))
	}
	return free
}

// failBelow has all open jobs that descend from a failed one fail, and answers them. It goes on from open ones alone: nothing below is done, and what is below one that had failed already has failed with it.
func (g *Graph) failBelow(id int64) set {
	var fell set
	todo := []int64{id}
	for len(todo) > 0 {
		parent := todo[len(todo)-1]
		todo = todo[:len(todo)-1]
		for child := range g.jobs {
			if g.jobs[child].state == open && g.jobs[child].parents[parent] {
				g.jobs[child].state = failed
				fell[child] = true
				todo = append(todo, int64(child))
			}
		}
	}
	return fell
}
