package profile

import (
	"slices"
	"sort"

	"drover/api"
	"drover/vector"
)

// A stretch lies between two steps that are neighbours: the one with the number n ends at steps[n]. So the first, 0, lies ahead of all steps, and the last behind all of them, without an end.

// stretch answers the number of the stretch in which that tick lies.
func (p *Profile) stretch(at int64) int {
	return sort.Search(len(p.steps), func(i int) bool { return p.steps[i].At > at })
}

// free answers what is free in a stretch.
func (p *Profile) free(stretch int) api.Vector {
	if stretch == 0 {
		return p.capacity
	}
	return p.steps[stretch-1].Free
}

// lower takes v, which must be free there, off each tick from from on and below to.
func (p *Profile) lower(from, to int64, v api.Vector) {
	first := p.split(from)
	end := p.split(to)
	for i := first; i < end; i++ {
		// No error can come of it, as v is free there.
		p.steps[i].Free, _ = vector.Sub(p.steps[i].Free, v)
	}
	// Steps between both ends stay what they were to one another; at the ends one may be none any more. The later one goes first, as that leaves the place of the other.
	p.join(end)
	p.join(first)
}

// split has a step at that tick, though it may be like what is ahead of it, and answers its place.
func (p *Profile) split(at int64) int {
	place := p.stretch(at)
	if place > 0 && p.steps[place-1].At == at {
		return place - 1
	}
	p.steps = slices.Insert(p.steps, place, Step{At: at, Free: p.free(place)})
	return place
}

// join drops the step at that place, if it is like what is ahead of it.
func (p *Profile) join(place int) {
	if p.steps[place].Free == p.free(place) {
		p.steps = slices.Delete(p.steps, place, place+1)
	}
}

// search answers the least tick, from from on, from which v, which must be within the capacity, is free for span ticks.
func (p *Profile) search(from, span int64, v api.Vector) int64 {
	start := from
	for place := p.stretch(from); place < len(p.steps); place++ {
		end := p.steps[place].At
		if !vector.Fits(v, p.free(place)) {
			start = end
		} else if end-start >= span {
			return start
		}
	}
	// Behind the last step all takes are over: the whole capacity is free without an end.
	return start
}
