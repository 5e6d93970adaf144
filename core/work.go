package core

import (
	"strconv"

	"drover/api"
	"drover/order"
	"drover/vector"
)

// The kinds of commands.
const (
	tenantKind = iota + 1
	submitKind
	cancelKind
	queryKind
	upKind
	beatKind
	doneKind
	failKind
	tickKind
	nodesKind
)

// work is the work of one command: the state that it changes, and what has come of it so far.
type work struct {
	*State
	records []api.Record
	orders  []api.Order
}

// step does the work of a formed command, and answers the reply.
func (w *work) step(x order.Command) []string {
	if err := w.take(x); err != api.OK {
		return refusal(err)
	}
	switch x.Kind {
	case queryKind:
		return []string{order.Job(*w.jobOf(x.Number))}
	case beatKind:
		return []string{"ok"}
	case nodesKind:
		return append(w.nodeLines(), "ok")
	}
	w.round()
	return []string{"ok"}
}

// take does the work of a command ahead of the round; if the command is refused, nothing.
func (w *work) take(x order.Command) api.Errno {
	switch x.Kind {
	case tenantKind:
		return w.join(x.Tenant)
	case submitKind:
		return w.submit(x.Job)
	case cancelKind:
		return w.cancel(x.Number)
	case queryKind:
		return w.query(x.Number)
	case upKind:
		return w.register(x)
	case beatKind:
		return w.beat(x)
	case doneKind:
		return w.done(x)
	case failKind:
		return w.fail(x)
	case tickKind:
		return w.tick()
	}
	// To tell of the nodes is never refused.
	return api.OK
}

// do plays a record, if it is possible, and notes what comes of it.
func (w *work) do(r api.Record) {
	// The state keeps the record that it plays, so that another one is answered.
	orders, ok := w.play(own(r))
	if ok {
		w.records = append(w.records, own(r))
		w.orders = append(w.orders, orders...)
	}
}

func (w *work) join(t api.Tenant) api.Errno {
	if err := w.tenantFault(t.Name); err != api.OK {
		return err
	}
	w.do(api.Joined{Tenant: t})
	return api.OK
}

func (w *work) submit(j api.Job) api.Errno {
	if err := w.jobFault(j); err != api.OK {
		return err
	}
	sum, err := vector.Sum(j.Tasks...)
	if err != api.OK {
		return api.ErrOver
	}
	if !vector.Fits(sum, w.tenantOf(j.Tenant).Quota) {
		return api.ErrQuota
	}
	w.do(api.Submitted{Job: j})
	w.do(api.Released{Job: j.ID})
	return api.OK
}

func (w *work) cancel(id int64) api.Errno {
	j := w.jobOf(id)
	if j == nil {
		return api.ErrNone
	}
	if hasEnded(j) {
		return api.ErrState
	}
	w.end(id, api.Cancelled)
	return api.OK
}

func (w *work) query(id int64) api.Errno {
	if w.jobOf(id) == nil {
		return api.ErrNone
	}
	return api.OK
}

func (w *work) register(x order.Command) api.Errno {
	if err := w.nodeFault(x.Node, x.Epoch); err != api.OK {
		return err
	}
	w.clear(x.Node)
	w.do(api.Up{Node: x.Node, Epoch: x.Epoch, Capacity: x.Vector})
	return api.OK
}

func (w *work) beat(x order.Command) api.Errno {
	n := w.nodeOf(x.Node)
	if n == nil {
		return api.ErrNone
	}
	if !n.Live || n.Epoch != x.Epoch {
		return api.ErrStale
	}
	w.do(api.Beat{Node: x.Node})
	return api.OK
}

func (w *work) done(x order.Command) api.Errno {
	if err := w.reportFault(x); err != api.OK {
		return err
	}
	w.do(api.Part{Job: x.Number, Node: x.Node})
	if !isThrough(w.jobOf(x.Number)) {
		return api.OK
	}
	w.do(api.Ended{Job: x.Number, State: api.Succeeded})
	for _, j := range w.Jobs {
		w.do(api.Released{Job: j.ID})
	}
	return api.OK
}

func (w *work) fail(x order.Command) api.Errno {
	if err := w.reportFault(x); err != api.OK {
		return err
	}
	w.end(x.Number, api.Failed)
	return api.OK
}

func (w *work) tick() api.Errno {
	if w.Now >= api.MaxNow {
		return api.ErrRange
	}
	w.do(api.Ticked{})
	for _, n := range w.Nodes {
		if n.Live && w.Now-n.Seen >= api.Lease {
			w.clear(n.Name)
			w.do(api.Down{Node: n.Name})
		}
	}
	return api.OK
}

// end has a job fail or be cancelled, and all that descends from it fail, but what has ended.
func (w *work) end(id int64, state int) {
	w.do(api.Ended{Job: id, State: state})
	for _, heir := range w.heirs(id) {
		w.do(api.Ended{Job: heir, State: api.Failed})
	}
}

// clear has nobody run on that node.
func (w *work) clear(node string) {
	for _, id := range w.runningOn(node) {
		w.do(api.Evicted{Job: id})
	}
}

func (w *work) nodeLines() []string {
	var lines []string
	for _, n := range w.Nodes {
		lines = append(lines, order.Node(n))
	}
	return lines
}

// refusal is the reply to a command that is refused.
func refusal(err api.Errno) []string {
	return []string{"error " + strconv.Itoa(int(err))}
}
