package core_test

import (
	"maps"
	"math/big"
	"slices"
	"strconv"

	"drover/api"
	"drover/core"
	"drover/evict"
	"drover/fill"
	"drover/order"
	"drover/place"
	"drover/wire"
)

// model is a second way of saying the chapter: all stands in maps, and all is worked out anew wherever it is asked for.
type model struct {
	now     int64
	tenants map[string]api.Tenant
	nodes   map[string]api.Node
	jobs    map[int64]api.Job
	records []api.Record // of the command that is taken
	orders  []api.Order
	met     map[string]int // what was met in rounds
}

func newModel() *model {
	return &model{tenants: map[string]api.Tenant{}, nodes: map[string]api.Node{}, jobs: map[int64]api.Job{}, met: map[string]int{}}
}

func (m *model) nodeNames() []string { return slices.Sorted(maps.Keys(m.nodes)) }

func (m *model) ids() []int64 { return slices.Sorted(maps.Keys(m.jobs)) }

func (m *model) state() core.State {
	s := core.State{Now: m.now}
	for _, name := range slices.Sorted(maps.Keys(m.tenants)) {
		s.Tenants = append(s.Tenants, m.tenants[name])
	}
	for _, name := range m.nodeNames() {
		s.Nodes = append(s.Nodes, m.nodes[name])
	}
	for _, id := range m.ids() {
		s.Jobs = append(s.Jobs, m.jobs[id])
	}
	return s
}

// in are the jobs of a state, rising.
func (m *model) in(state int) []api.Job {
	var l []api.Job
	for _, id := range m.ids() {
		if m.jobs[id].State == state {
			l = append(l, m.jobs[id])
		}
	}
	return l
}

func (m *model) descends(from, to int64) bool {
	for _, p := range m.jobs[from].Parents {
		if p == to || m.descends(p, to) {
			return true
		}
	}
	return false
}

func ever(state int) bool { return state >= api.Succeeded }

// tasks are those that run and of which that is said.
func (m *model) sum(counts func(j api.Job, task int) bool) api.Vector {
	var sum api.Vector
	for _, j := range m.in(api.Running) {
		for i, v := range j.Tasks {
			if counts(j, i) {
				sum = plus(sum, v)
			}
		}
	}
	return sum
}

func plus(a, b api.Vector) api.Vector {
	return api.Vector{a[0] + b[0], a[1] + b[1], a[2] + b[2], a[3] + b[3]}
}

func within(a, b api.Vector) bool {
	return a[0] <= b[0] && a[1] <= b[1] && a[2] <= b[2] && a[3] <= b[3]
}

func total(l []api.Vector) api.Vector {
	var sum api.Vector
	for _, v := range l {
		sum = plus(sum, v)
	}
	return sum
}

func (m *model) slots() []place.Slot {
	var slots []place.Slot
	for _, name := range m.nodeNames() {
		n := m.nodes[name]
		used := m.sum(func(j api.Job, i int) bool { return j.Nodes[i] == name })
		for i := range used {
			used[i] = -used[i]
		}
		if n.Live {
			slots = append(slots, place.Slot{Node: name, Free: plus(n.Capacity, used)})
		}
	}
	return slots
}

func (m *model) fitsQuota(j api.Job) bool {
	used := m.sum(func(other api.Job, _ int) bool { return other.Tenant == j.Tenant })
	return within(plus(total(j.Tasks), used), m.tenants[j.Tenant].Quota)
}

func (m *model) runsOn(node string) []int64 {
	var l []int64
	for _, j := range m.in(api.Running) {
		if slices.Contains(j.Nodes, node) {
			l = append(l, j.ID)
		}
	}
	return l
}

// possible is the second column of the chapter's first table.
func (m *model) possible(p api.Plain) bool {
	j, there := m.jobs[p.ID]
	n, known := m.nodes[p.Node]
	switch p.Kind {
	case 1:
		_, known := m.tenants[p.Tenant.Name]
		return !known && len(m.tenants) < 8
	case 2:
		return len(m.runsOn(p.Node)) == 0 && (known && n.Epoch < p.Epoch || !known && len(m.nodes) < 12)
	case 3:
		return n.Live
	case 4:
		return n.Live && len(m.runsOn(p.Node)) == 0
	case 5:
		_, there := m.jobs[p.Job.ID]
		_, known := m.tenants[p.Job.Tenant]
		return !there && known && !slices.ContainsFunc(p.Job.Parents, func(q int64) bool {
			return q == p.Job.ID || m.descends(q, p.Job.ID) || m.jobs[q].State >= api.Failed
		})
	case 6:
		return j.State == api.Waiting && !slices.ContainsFunc(j.Parents, func(q int64) bool { return m.jobs[q].State != api.Succeeded })
	case 7:
		_, e := place.After(j.Tasks, p.Nodes, m.slots()...)
		return j.State == api.Ready && len(p.Nodes) == len(j.Tasks) && e == api.OK && m.fitsQuota(j)
	case 8:
		return j.State == api.Running
	case 9:
		return j.State == api.Running && slices.Contains(j.Nodes, p.Node) && !slices.Contains(j.Done, p.Node)
	case 10:
		through := j.State == api.Running
		for _, node := range j.Nodes {
			through = through && slices.Contains(j.Done, node)
		}
		return there && !ever(j.State) && (p.State != api.Succeeded || through)
	case 11:
		return m.now < 1<<40
	}
	return false
}

// play is the third column, and what workers are told.
func (m *model) play(r api.Record) ([]api.Order, bool) {
	p := api.Plainly(r)
	if !m.possible(p) {
		return nil, false
	}
	j, n := m.jobs[p.ID], m.nodes[p.Node]
	var told []api.Order
	switch p.Kind {
	case 1:
		m.tenants[p.Tenant.Name] = p.Tenant
	case 2:
		m.nodes[p.Node] = api.Node{Name: p.Node, Epoch: p.Epoch, Capacity: p.Vector, Seen: m.now, Live: true}
	case 3:
		n.Seen = m.now
		m.nodes[p.Node] = n
	case 4:
		n.Live = false
		m.nodes[p.Node] = n
	case 5:
		j = p.Job
		j.State = api.Waiting
	case 6:
		j.State = api.Ready
	case 7:
		j.State, j.Attempt, j.Nodes, j.Start = api.Running, j.Attempt+1, p.Nodes, m.now
		told = m.told(j, true)
	case 8:
		told = m.told(j, false)
		j.State, j.Nodes, j.Done, j.Start = api.Ready, nil, nil, 0
	case 9:
		j.Done = slices.Sorted(slices.Values(append(slices.Clone(j.Done), p.Node)))
	case 10:
		if p.State != api.Succeeded {
			told = m.told(j, false)
		}
		j.State, j.Nodes, j.Done, j.Start = p.State, nil, nil, 0
	case 11:
		m.now++
	}
	if j.ID > 0 {
		m.jobs[j.ID] = j
	}
	return told, true
}

// told are the orders of a job, of each of its nodes that it isn't done on.
func (m *model) told(j api.Job, launch bool) []api.Order {
	var l []api.Order
	for _, name := range slices.Compact(slices.Sorted(slices.Values(j.Nodes))) {
		o := api.Order{Node: name, Epoch: m.nodes[name].Epoch, Job: j.ID, Attempt: j.Attempt, Launch: launch}
		for i, node := range j.Nodes {
			if launch && node == name {
				o.Tasks = append(o.Tasks, int64(i))
			}
		}
		if !slices.Contains(j.Done, name) {
			l = append(l, o)
		}
	}
	return l
}

// Play is the core's.
func (m *model) Play(r api.Record) ([]api.Order, api.Errno) {
	if !wire.Formed(r) {
		return nil, api.ErrForm
	}
	told, ok := m.play(r)
	if !ok {
		return nil, api.ErrState
	}
	return told, api.OK
}

// try plays a record, if that is possible.
func (m *model) try(r api.Record) {
	if told, ok := m.play(r); ok {
		m.records = append(m.records, r)
		m.orders = append(m.orders, told...)
	}
}

// refusal is the second column of the chapter's second table.
func (m *model) refusal(x order.Command) api.Errno {
	j, there := m.jobs[x.Number]
	n, known := m.nodes[x.Node]
	no := func(e api.Errno, on bool) api.Errno {
		if on {
			return e
		}
		return api.OK
	}
	var l []api.Errno
	switch x.Kind {
	case 1:
		_, twice := m.tenants[x.Tenant.Name]
		l = []api.Errno{no(api.ErrTwice, twice), no(api.ErrFull, len(m.tenants) == 8)}
	case 2:
		_, twice := m.jobs[x.Job.ID]
		t, known := m.tenants[x.Job.Tenant]
		cycle, broken := false, false
		for _, p := range x.Job.Parents {
			cycle = cycle || m.descends(p, x.Job.ID)
			broken = broken || m.jobs[p].State >= api.Failed
		}
		sum := total(x.Job.Tasks)
		l = []api.Errno{
			no(api.ErrTwice, twice), no(api.ErrNone, !known), no(api.ErrCycle, cycle), no(api.ErrState, broken),
			no(api.ErrOver, !within(sum, api.Vector{top, top, top, top})), no(api.ErrQuota, !within(sum, t.Quota)),
		}
	case 3:
		l = []api.Errno{no(api.ErrNone, !there), no(api.ErrState, ever(j.State))}
	case 4:
		l = []api.Errno{no(api.ErrNone, !there)}
	case 5:
		l = []api.Errno{no(api.ErrStale, known && x.Epoch <= n.Epoch), no(api.ErrFull, !known && len(m.nodes) == 12)}
	case 6:
		l = []api.Errno{no(api.ErrNone, !known), no(api.ErrStale, !n.Live || x.Epoch != n.Epoch)}
	case 7, 8:
		part := api.Plainly(api.Part{Job: x.Number, Node: x.Node})
		l = []api.Errno{no(api.ErrNone, !known || !there), no(api.ErrStale, !n.Live || x.Epoch != n.Epoch || j.Attempt != x.Attempt || !m.possible(part))}
	case 9:
		l = []api.Errno{no(api.ErrRange, m.now == 1<<40)}
	}
	for _, e := range l {
		if e != api.OK {
			return e
		}
	}
	return api.OK
}

// Step is the core's.
func (m *model) Step(x order.Command) ([]string, []api.Record, []api.Order) {
	m.records, m.orders = nil, nil
	e := api.ErrForm
	if order.Formed(x) {
		e = m.refusal(x)
	}
	if e != api.OK {
		return []string{"error " + strconv.Itoa(int(e))}, nil, nil
	}
	m.taken(x)
	if x.Kind != 4 && x.Kind != 6 && x.Kind != 10 {
		m.round()
	}
	reply := []string{"ok"}
	if x.Kind == 4 {
		reply = []string{order.Job(m.jobs[x.Number])}
	}
	if x.Kind == 10 {
		reply = nil
		for _, name := range m.nodeNames() {
			reply = append(reply, order.Node(m.nodes[name]))
		}
		reply = append(reply, "ok")
	}
	return reply, m.records, m.orders
}

// taken is the third column of that table.
func (m *model) taken(x order.Command) {
	end := func(state int) {
		m.try(api.Ended{Job: x.Number, State: state})
		for _, id := range m.ids() {
			if m.descends(id, x.Number) && !ever(m.jobs[id].State) {
				m.try(api.Ended{Job: id, State: api.Failed})
			}
		}
	}
	evict := func(node string) {
		for _, id := range m.runsOn(node) {
			m.try(api.Evicted{Job: id})
		}
	}
	switch x.Kind {
	case 1:
		m.try(api.Joined{Tenant: x.Tenant})
	case 2:
		m.try(api.Submitted{Job: x.Job})
		m.try(api.Released{Job: x.Job.ID})
	case 3:
		end(api.Cancelled)
	case 5:
		evict(x.Node)
		m.try(api.Up{Node: x.Node, Epoch: x.Epoch, Capacity: x.Vector})
	case 6:
		m.try(api.Beat{Node: x.Node})
	case 7:
		m.try(api.Part{Job: x.Number, Node: x.Node})
		m.try(api.Ended{Job: x.Number, State: api.Succeeded})
		for _, id := range m.ids() {
			if m.jobs[x.Number].State == api.Succeeded {
				m.try(api.Released{Job: id})
			}
		}
	case 8:
		end(api.Failed)
	case 9:
		m.try(api.Ticked{})
		for _, name := range m.nodeNames() {
			if n := m.nodes[name]; n.Live && n.Seen+10 <= m.now {
				evict(name)
				m.try(api.Down{Node: name})
			}
		}
	}
}

// share is what a tenant has of the whole, weighed.
func (m *model) share(name string) *big.Rat {
	var whole api.Vector
	for _, n := range m.nodes {
		if n.Live {
			whole = plus(whole, n.Capacity)
		}
	}
	used := m.sum(func(j api.Job, _ int) bool { return j.Tenant == name })
	most := new(big.Rat)
	for i, n := range used {
		if whole[i] == 0 {
			continue
		}
		part := big.NewRat(n, min(whole[i], top)*m.tenants[name].Weight)
		if part.Cmp(most) > 0 {
			most = part
		}
	}
	return most
}

// round goes through all that are ready for the one whose turn it is.
func (m *model) round() {
	passed := map[int64]int{} // by which of the chapter's sentences
	var head *api.Job
	for {
		var turn *api.Job
		for _, j := range m.in(api.Ready) {
			if passed[j.ID] == 0 && (turn == nil || m.ahead(j, *turn)) {
				turn = &j
			}
		}
		if turn == nil {
			return
		}
		by := m.turn(*turn, head)
		passed[turn.ID] = max(0, by)
		m.met["turn "+strconv.Itoa(by)]++
		if by == 3 {
			head = turn
		}
		if by == -1 {
			were := len(passed)
			maps.DeleteFunc(passed, func(_ int64, by int) bool { return by == 2 })
			m.met["again"] += were - len(passed)
		}
	}
}

func (m *model) ahead(a, b api.Job) bool {
	if a.Priority != b.Priority {
		return a.Priority > b.Priority
	}
	if a.Tenant == b.Tenant {
		return a.ID < b.ID
	}
	if c := m.share(a.Tenant).Cmp(m.share(b.Tenant)); c != 0 {
		return c < 0
	}
	return a.Tenant < b.Tenant
}

// turn answers by which sentence the job is passed over; 0, if it is placed, -1, if somebody was evicted for it.
func (m *model) turn(j api.Job, head *api.Job) int {
	if !m.fitsQuota(j) {
		return 2
	}
	var victims []evict.Victim
	var runs []fill.Run
	for _, other := range m.in(api.Running) {
		victims = append(victims, evict.Victim{Job: other.ID, Priority: other.Priority, Start: other.Start, Tasks: other.Tasks, Nodes: other.Nodes})
		runs = append(runs, fill.Run{Job: other.ID, End: min(other.Start+other.Runtime, late), Tasks: other.Tasks, Nodes: other.Nodes})
	}
	if head == nil {
		gone, nodes, e := evict.Choose(j.Tasks, j.Priority, victims, m.slots()...)
		if e != api.OK {
			return 3
		}
		for _, id := range gone {
			m.try(api.Evicted{Job: id})
		}
		m.try(api.Placed{Job: j.ID, Nodes: nodes})
		return -min(1, len(gone))
	}
	nodes, ok, _ := fill.Admit(m.now, head.Tasks, j.Tasks, j.Runtime, runs, m.slots()...)
	if !ok {
		return 4
	}
	m.try(api.Placed{Job: j.ID, Nodes: nodes})
	m.met["admitted"]++
	return 0
}
