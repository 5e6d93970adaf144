package dag

import (
	"drover/api"
)

const size = api.MaxJobs + 1 // numbers begin at 1, so that the place of 0 stays empty

// set holds numbers of jobs, whether there are such jobs or not.
type set [size]bool

// isNumber tells whether a job may have that number.
func isNumber(id int64) bool {
	return 1 <= id && id <= api.MaxJobs
}

// setOf answers the set of ids, and whether a job may have each of them as its number.
func setOf(ids []int64) (set, bool) {
	var s set
	for _, id := range ids {
		if !isNumber(id) {
			return set{}, false
		}
		s[id] = true
	}
	return s, true
}

// list answers the numbers of s, rising.
func (s set) list() []int64 {
	var ids []int64
	for id, is := range s {
		if is {
			ids = append(ids, int64(id))
		}
	}
	return ids
}
