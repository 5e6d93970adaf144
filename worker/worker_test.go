package worker_test

import (
	"math"
	"slices"
	"strconv"
	"strings"
	"testing"

	"drover/api"
	"drover/worker"
)

const (
	most  = api.MaxNodes
	top   = api.MaxAmount
	end   = api.MaxNow
	last  = 1<<31 - 1 // the greatest epoch
	lease = api.Lease
)

// names are some of each kind that may be, rising; notNames are some that may not be, each for one reason.
func names() []string {
	return []string{"-", "0", "9z", "_", "a", "a-", "a0", "aa", strings.Repeat("a", 16), "b", "node-1", "z", "α", "αβ", "β", strings.Repeat("ω", 16)}
}

func notNames() []string {
	return []string{"", " ", "A", "Node", "a b", "a.b", "a/", `"a"`, "a\n", "a\x00", "\xff", "a\xce", "é", "Ω", "\u03b0", "\u03ca", "a\u2028", strings.Repeat("a", 17), strings.Repeat("ω", 17), strings.Repeat("a", 100000)}
}

// unformed are vectors that are none, at each place.
func unformed() []api.Vector {
	var list []api.Vector
	for place := range len(api.Vector{}) {
		for _, n := range []int64{-1, top + 1, math.MinInt64, math.MaxInt64, -top, 1 << 62} {
			for _, v := range []api.Vector{{}, {1, 2, 3, 4}, {top, top, top, top}} {
				v[place] = n
				list = append(list, v)
			}
		}
	}
	return list
}

// number answers the names of many nodes, rising.
func number(i int) string {
	return "n" + strconv.Itoa(100+i)
}

// live and lost make nodes of which the first resource alone is there.
func live(name string, epoch, amount, seen int64) api.Node {
	return api.Node{Name: name, Epoch: epoch, Capacity: api.Vector{amount}, Seen: seen, Live: true}
}

func lost(name string, epoch, amount, seen int64) api.Node {
	n := live(name, epoch, amount, seen)
	n.Live = false
	return n
}

// capped is of each resource the sum of the live nodes' capacities, MaxAmount at most.
func capped(list []api.Node) api.Vector {
	var sum api.Vector
	for i := range sum {
		for _, n := range list {
			if n.Live {
				sum[i] += n.Capacity[i]
			}
		}
		if sum[i] > top {
			sum[i] = top
		}
	}
	return sum
}

// holds asks that these nodes, rising, are all that there are, by every call that says so.
func holds(t *testing.T, w *worker.Table, want ...api.Node) {
	t.Helper()
	if got := w.All(); !slices.Equal(got, want) {
		t.Fatalf("All = %v, not %v", got, want)
	}
	var heard []api.Node
	for _, n := range want {
		if n.Live {
			heard = append(heard, n)
		}
		if got, e := w.Get(n.Name); got != n || e != api.OK {
			t.Fatalf("Get(%.20q) = %v, %d, not %v", n.Name, got, e, n)
		}
	}
	if got := w.Live(); !slices.Equal(got, heard) {
		t.Fatalf("Live = %v, not %v", got, heard)
	}
	if got := w.Whole(); got != capped(want) {
		t.Fatalf("Whole = %v, not %v", got, capped(want))
	}
}

// lacks asks that there are no nodes of these names.
func lacks(t *testing.T, w *worker.Table, names ...string) {
	t.Helper()
	for _, name := range names {
		if n, e := w.Get(name); n != (api.Node{}) || e != api.ErrNone {
			t.Fatalf("Get(%.20q) = %v, %d, not ErrNone", name, n, e)
		}
		for _, epoch := range []int64{math.MinInt64, -1, 0, 1, last, math.MaxInt64} {
			for _, now := range []int64{math.MinInt64, -1, 0, end, end + 1, math.MaxInt64} {
				beatsNot(t, w, api.ErrNone, name, epoch, now)
			}
		}
	}
}

// with answers a list of nodes with n in its place, there already or not.
func with(list []api.Node, n api.Node) []api.Node {
	list = slices.DeleteFunc(slices.Clone(list), func(m api.Node) bool { return m.Name == n.Name })
	i := 0
	for i < len(list) && list[i].Name < n.Name {
		i++
	}
	return slices.Insert(list, i, n)
}

// ups registers a node, and asks that it alone is another.
func ups(t *testing.T, w *worker.Table, was bool, n api.Node) {
	t.Helper()
	want := with(w.All(), n)
	if got, e := w.Register(n.Name, n.Epoch, n.Capacity, n.Seen); got != was || e != api.OK {
		t.Fatalf("Register(%.20q, %d, %v, %d) = %t, %d", n.Name, n.Epoch, n.Capacity, n.Seen, got, e)
	}
	holds(t, w, want...)
}

// upsNot asks that a node is refused so, and that the table is as it was.
func upsNot(t *testing.T, w *worker.Table, want api.Errno, name string, epoch int64, capacity api.Vector, now int64) {
	t.Helper()
	before := w.All()
	if got, e := w.Register(name, epoch, capacity, now); got || e != want {
		t.Fatalf("Register(%.20q, %d, %v, %d) = %t, %d, not %d", name, epoch, capacity, now, got, e, want)
	}
	holds(t, w, before...)
}

// beats has a node be heard, and asks that its Seen alone is another.
func beats(t *testing.T, w *worker.Table, name string, epoch, now int64) {
	t.Helper()
	n, _ := w.Get(name)
	n.Seen = now
	want := with(w.All(), n)
	if e := w.Beat(name, epoch, now); e != api.OK {
		t.Fatalf("Beat(%.20q, %d, %d) = %d", name, epoch, now, e)
	}
	holds(t, w, want...)
}

func beatsNot(t *testing.T, w *worker.Table, want api.Errno, name string, epoch, now int64) {
	t.Helper()
	before := w.All()
	if e := w.Beat(name, epoch, now); e != want {
		t.Fatalf("Beat(%.20q, %d, %d) = %d, not %d", name, epoch, now, e, want)
	}
	holds(t, w, before...)
}

// expires asks who is lost at a tick, that they are live no more, and that all else is as it was.
func expires(t *testing.T, w *worker.Table, now int64, names ...string) {
	t.Helper()
	want := w.All()
	for i, n := range want {
		want[i].Live = n.Live && !slices.Contains(names, n.Name)
	}
	if got := w.Expire(now); !slices.Equal(got, names) {
		t.Fatalf("Expire(%d) = %q, not %q", now, got, names)
	}
	holds(t, w, want...)
}

// of is a table with these nodes, which are live.
func of(t *testing.T, nodes ...api.Node) *worker.Table {
	t.Helper()
	w := worker.New()
	for _, n := range nodes {
		ups(t, w, false, n)
	}
	return w
}

// full is a table of as many nodes as there may be, those of names that number gives, each seen at the tick of its number.
func full(t *testing.T) *worker.Table {
	t.Helper()
	w := worker.New()
	for i := range most {
		// Not rising, and not falling.
		i = i * 5 % most
		ups(t, w, false, live(number(i), int64(i+1), int64(i), int64(i)))
	}
	return w
}

// P19.1 to P19.3: the chapter's examples.
func TestExamples(t *testing.T) {
	w := of(t, live("a", 1, 4, 0))
	expires(t, w, 9)
	expires(t, w, 10, "a")
	beatsNot(t, w, api.ErrStale, "a", 1, 10)
	upsNot(t, w, api.ErrStale, "a", 1, api.Vector{4}, 10)
	ups(t, w, false, live("a", 2, 8, 11))
	ups(t, w, true, live("a", 3, 8, 12))
}

// P19.1: a table without nodes.
func TestNone(t *testing.T) {
	w := worker.New()
	holds(t, w)
	lacks(t, w, names()...)
	lacks(t, w, notNames()...)
	for _, now := range []int64{math.MinInt64, -1, 0, lease, end + lease, math.MaxInt64} {
		expires(t, w, now)
	}
	holds(t, w)
}

// P19.1, P19.2: one node, of each name that may be, and nobody else.
func TestOne(t *testing.T) {
	for i, name := range names() {
		w := of(t, live(name, 5, 7, 3))
		holds(t, w, live(name, 5, 7, 3))
		lacks(t, w, slices.Delete(names(), i, i+1)...)
		lacks(t, w, notNames()...)
		expires(t, w, 12)
		expires(t, w, 13, name)
		holds(t, w, lost(name, 5, 7, 3))
		ups(t, w, false, live(name, 6, 7, 0))
	}
}

// P19.1: nodes are told rising by their names, byte by byte, however they came, and however they were heard.
func TestRising(t *testing.T) {
	list := names()[2 : 2+most]
	var nodes []api.Node
	for i, name := range list {
		nodes = append(nodes, live(name, int64(i+1), int64(i), int64(i%3)))
	}
	for step := range most {
		w := worker.New()
		// By any step that has no factor of most each is met once; the others begin anew.
		for i, met := 0, map[int]int{}; len(met) < most; i = (i + step) % most {
			for met[i] > 0 {
				i = (i + 1) % most
			}
			met[i]++
			ups(t, w, false, nodes[i])
		}
		holds(t, w, nodes...)
		for i := range slices.Backward(nodes) {
			beats(t, w, list[i], int64(i+1), int64(2+i%5))
		}
		expires(t, w, 2+4+lease, list...)
	}
}

// P19.1, P19.2: as many nodes as there may be, and none more, while those that are there can register anew; none goes, be it live or not.
func TestFull(t *testing.T) {
	w := full(t)
	more := func() {
		t.Helper()
		for _, name := range []string{"a", "z", number(most), "ω"} {
			for _, epoch := range []int64{1, most + 1, last} {
				upsNot(t, w, api.ErrFull, name, epoch, api.Vector{1}, 0)
			}
			lacks(t, w, name)
		}
	}
	more()
	for i := range most {
		ups(t, w, true, live(number(i), 100, 1, 50))
	}
	more()
	expires(t, w, 59)
	beats(t, w, number(3), 100, 55)
	expires(t, w, 64, slices.DeleteFunc(numbers(), func(name string) bool { return name == number(3) })...)
	more()
	expires(t, w, 65, number(3))
	more()
	for i := range most {
		ups(t, w, false, live(number(i), 101, 1, 70))
	}
	more()
}

// numbers are the names of full's nodes, rising.
func numbers() []string {
	var list []string
	for i := range most {
		list = append(list, number(i))
	}
	return list
}

// P19.2: each epoch from 1 to the greatest, each tick from 0 to MaxNow, and each formed capacity is taken.
func TestRegister(t *testing.T) {
	for _, epoch := range []int64{1, 2, 1 << 16, last - 1, last} {
		for _, now := range []int64{0, 1, 1 << 32, end - 1, end} {
			for _, capacity := range []api.Vector{{}, {1}, {0, 0, 0, 1}, {1, 2, 3, 4}, {top}, {0, 0, 0, top}, {top, top, top, top}} {
				n := api.Node{Name: "a", Epoch: epoch, Capacity: capacity, Seen: now, Live: true}
				w := of(t, n, live("b", 1, 1, 0))
				expires(t, w, 9)
				if now > 0 {
					expires(t, w, lease, "b")
				}
				expires(t, w, now+lease-1)
			}
		}
	}
}

// P19.2: what registers again has the new epoch, capacity and tick, be that tick before the one at which it was seen, and is live, be it live ahead of that or not.
func TestRegisterAgain(t *testing.T) {
	for _, now := range []int64{0, 19, 20, 21, 29, 30, 31, end} {
		w := of(t, live("a", 4, 9, 20), live("b", 1, 5, end))
		n := api.Node{Name: "a", Epoch: 5, Capacity: api.Vector{1, 2, 3, 4}, Seen: now, Live: true}
		ups(t, w, true, n)
		expires(t, w, now+lease-1)
		if now < end {
			expires(t, w, now+lease, "a")
		}
		w = of(t, live("a", 4, 9, 20), live("b", 1, 5, end))
		expires(t, w, 30, "a")
		ups(t, w, false, n)
		expires(t, w, now+lease-1)
		n.Epoch, n.Capacity, n.Seen = 6, api.Vector{}, 7
		ups(t, w, true, n)
		expires(t, w, 17, "a")
		n.Epoch = last
		ups(t, w, false, n)
	}
}

// P19.2: there is nothing above the greatest epoch.
func TestLastEpoch(t *testing.T) {
	w := of(t, live("a", 1, 1, 0))
	ups(t, w, true, live("a", last, 1, 0))
	upsNot(t, w, api.ErrStale, "a", last, api.Vector{1}, 0)
	upsNot(t, w, api.ErrStale, "a", last-1, api.Vector{1}, 0)
	upsNot(t, w, api.ErrRange, "a", last+1, api.Vector{1}, 0)
	beats(t, w, "a", last, 5)
	expires(t, w, 15, "a")
	upsNot(t, w, api.ErrStale, "a", last, api.Vector{1}, 0)
	upsNot(t, w, api.ErrRange, "a", last+1, api.Vector{1}, 0)
}

// P19.3: a node is heard at the tick at which it was seen and at each one behind it, up to MaxNow.
func TestBeat(t *testing.T) {
	for _, now := range []int64{5, 6, 14, 15, 16, 1 << 33, end - 1, end} {
		w := of(t, live("a", 2, 1, 5), live("b", 2, 1, 5))
		beats(t, w, "a", 2, now)
		expires(t, w, 14)
		if now == 5 {
			expires(t, w, 15, "a", "b")
			continue
		}
		expires(t, w, 15, "b")
		expires(t, w, now+lease-1)
		expires(t, w, now+lease, "a")
	}
}

// P19.3: whose lease is over, but who wasn't asked for yet, is live, and is heard.
func TestBeatBehindTheLease(t *testing.T) {
	w := of(t, live("a", 1, 4, 0))
	beats(t, w, "a", 1, lease)
	expires(t, w, lease)
	beats(t, w, "a", 1, 10*lease)
	expires(t, w, 11*lease-1)
	ups(t, w, true, live("a", 2, 4, 20*lease))
	expires(t, w, 21*lease-1)
	expires(t, w, 21*lease, "a")
}

// P19.3: nobody is lost one tick ahead of a lease's end, and all are lost at it and behind it, at the limits too.
func TestExpire(t *testing.T) {
	for _, seen := range []int64{0, 1, 7, 1 << 31, 1<<32 - lease, end - lease, end - 1, end} {
		for _, behind := range []int64{0, 1, 2, 1 << 40, math.MaxInt64 - end - lease} {
			w := of(t, live("a", 1, 4, seen))
			for _, now := range []int64{math.MinInt64, -1, 0, seen - 1, seen, seen + 1, seen + lease - 1} {
				if now < seen+lease {
					expires(t, w, now)
				}
			}
			now := seen + lease + behind
			expires(t, w, now, "a")
			expires(t, w, now)
			expires(t, w, math.MaxInt64)
			holds(t, w, lost("a", 1, 4, seen))
		}
	}
}

// P19.3: several are lost at once, rising by their names, whatever the ticks at which their leases were over; none twice.
func TestExpireSeveral(t *testing.T) {
	w := of(t, live("c", 1, 1, 0), live("b", 1, 1, 2), live("a", 1, 1, 4), live("e", 1, 1, 5), live("d", 1, 1, 4))
	expires(t, w, 14, "a", "b", "c", "d")
	expires(t, w, 14)
	expires(t, w, 15, "e")
	expires(t, w, math.MaxInt64)
	for now := int64(-1); now <= most+lease; now++ {
		w, gone := full(t), max(0, min(int(now-lease+1), most))
		expires(t, w, now, numbers()[:gone]...)
		expires(t, w, now)
		expires(t, w, now-1)
		expires(t, w, math.MaxInt64, numbers()[gone:]...)
	}
}

// P19.3: of several some are heard again, or register again; the others are lost.
func TestExpireSome(t *testing.T) {
	for mask := range 1 << 6 {
		w := worker.New()
		var gone, stay []string
		for i := range 6 {
			ups(t, w, false, live(number(i), 1, 1, 10))
		}
		for i := range 6 {
			switch {
			case mask>>i&1 == 0:
				gone = append(gone, number(i))
				continue
			case i%2 == 0:
				beats(t, w, number(i), 1, 11)
			default:
				ups(t, w, true, live(number(i), 2, 1, 11))
			}
			stay = append(stay, number(i))
		}
		expires(t, w, 19)
		expires(t, w, 20, gone...)
		expires(t, w, 20)
		expires(t, w, 21, stay...)
	}
}

// P19.3: at a tick ahead of what was heard nobody is lost, nor is the tick of one Expire kept for what comes behind it.
func TestExpireAhead(t *testing.T) {
	w := of(t, live("a", 1, 1, 100), live("b", 1, 1, 0))
	expires(t, w, 50, "b")
	expires(t, w, 5)
	ups(t, w, false, live("b", 2, 1, 3))
	beats(t, w, "b", 2, 4)
	expires(t, w, 13)
	expires(t, w, 14, "b")
	beats(t, w, "a", 1, 100)
	expires(t, w, 109)
	expires(t, w, 110, "a")
}

// P19.1: the sum of the live ones' capacities, each resource by itself, up to MaxAmount and above.
func TestWhole(t *testing.T) {
	for place := range len(api.Vector{}) {
		for _, x := range []struct{ first, second, third, want int64 }{
			{0, 0, 0, 0}, {1, 2, 3, 6}, {top, 0, 0, top}, {top - 1, 1, 0, top}, {1, top - 1, 1, top},
			{top, 1, 0, top}, {0, top, 1, top}, {top, top, top, top}, {top / 2, top / 2, 0, top}, {top / 2, top/2 - 1, 0, top - 1},
		} {
			// Ahead of c none of the others is at its most.
			w := worker.New()
			for i, amount := range []int64{x.first, x.second, x.third} {
				v := api.Vector{1, 20, 300, top/3 - 1}
				v[place] = amount
				ups(t, w, false, api.Node{Name: "abc"[i : i+1], Epoch: 1, Capacity: v, Live: true})
			}
			want := api.Vector{3, 60, 900, (top/3 - 1) * 3}
			want[place] = x.want
			if got := w.Whole(); got != want {
				t.Fatalf("Whole of %v at %d = %v, not %v", x, place, got, want)
			}
		}
	}
}

// P19.1: who is lost counts no more in the whole, and counts again when it is live; what is above MaxAmount isn't forgotten.
func TestWholeOfLive(t *testing.T) {
	whole := func(w *worker.Table, want ...int64) {
		t.Helper()
		if got := w.Whole(); !slices.Equal(got[:], want) {
			t.Fatalf("Whole = %v, not %v", got, want)
		}
	}
	w := worker.New()
	for i := range most {
		ups(t, w, false, api.Node{Name: number(i), Epoch: 1, Capacity: api.Vector{top, 1, top / 4, 0}, Seen: int64(i), Live: true})
	}
	whole(w, top, most, top, 0)
	expires(t, w, lease+most-6, numbers()[:most-5]...)
	whole(w, top, 5, top, 0)
	expires(t, w, lease+most-4, number(most-5), number(most-4))
	whole(w, top, 3, top/4*3, 0)
	expires(t, w, lease+most-2, number(most-3), number(most-2))
	whole(w, top, 1, top/4, 0)
	ups(t, w, true, api.Node{Name: number(most - 1), Epoch: 2, Capacity: api.Vector{4, 0, 0, 5}, Seen: 50, Live: true})
	whole(w, 4, 0, 0, 5)
	ups(t, w, false, api.Node{Name: number(0), Epoch: 2, Capacity: api.Vector{0, 0, 0, top - 4}, Seen: 60, Live: true})
	whole(w, 4, 0, 0, top)
	expires(t, w, 60, number(most-1))
	whole(w, 0, 0, 0, top-4)
	expires(t, w, 70, number(0))
	whole(w, 0, 0, 0, 0)
}
