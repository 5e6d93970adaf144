package timer

// line is a clock as the library's heap asks for one. It is a type of its own, so that the calls which that heap needs are none of the clock's; Len it has of the clock.
type line struct {
	*Clock
}

// Less tells whether the alarm at place i is earlier than the one at place j. No two are alike, as names are not.
func (l line) Less(i, j int) bool {
	a, b := l.alarms[i], l.alarms[j]
	if a.At != b.At {
		return a.At < b.At
	}
	return a.Name < b.Name
}

func (l line) Swap(i, j int) {
	a, b := l.alarms[i], l.alarms[j]
	l.put(b, i)
	l.put(a, j)
}

// Push puts x, an alarm, behind the others.
func (l line) Push(x any) {
	if l.places == nil {
		l.places = map[string]int{}
	}
	l.alarms = append(l.alarms, Alarm{})
	l.put(x.(Alarm), len(l.alarms)-1)
}

// Pop takes the last alarm out.
func (l line) Pop() any {
	last := len(l.alarms) - 1
	a := l.alarms[last]
	// Else the spare room would keep the name.
	l.alarms[last] = Alarm{}
	l.alarms = l.alarms[:last]
	delete(l.places, a.Name)
	return a
}

func (l line) put(a Alarm, place int) {
	l.alarms[place] = a
	l.places[a.Name] = place
}
