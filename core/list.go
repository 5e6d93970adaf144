package core

import (
	"cmp"
	"slices"

	"drover/api"
)

// Tenants, nodes and jobs stand in lists that rise by their keys, which are these.

func tenantName(t api.Tenant) string { return t.Name }

func nodeName(n api.Node) string { return n.Name }

func jobID(j api.Job) int64 { return j.ID }

// find answers where in a rising list that key stands; nil, if it doesn't. What it answers holds till something is put in.
func find[T any, K cmp.Ordered](l []T, key func(T) K, k K) *T {
	at, ok := placeIn(l, key, k)
	if !ok {
		return nil
	}
	return &l[at]
}

// put answers a rising list with x in it, whose key isn't there yet.
func put[T any, K cmp.Ordered](l []T, key func(T) K, x T) []T {
	at, _ := placeIn(l, key, key(x))
	return slices.Insert(l, at, x)
}

func placeIn[T any, K cmp.Ordered](l []T, key func(T) K, k K) (int, bool) {
	return slices.BinarySearchFunc(l, k, func(x T, k K) int { return cmp.Compare(key(x), k) })
}

// rising puts a list in order, and keeps the first of each key. Of a state that some core was in it leaves all as it is; of others it sees to it that what is asked for by its key is what is found.
func rising[T any, K cmp.Ordered](l []T, key func(T) K) []T {
	slices.SortStableFunc(l, func(a, b T) int { return cmp.Compare(key(a), key(b)) })
	return slices.CompactFunc(l, func(a, b T) bool { return key(a) == key(b) })
}

// sound leaves out the jobs that run without a node for each task, which are in no state that some core was in.
func sound(jobs []api.Job) []api.Job {
	return slices.DeleteFunc(jobs, func(j api.Job) bool {
		return j.State == api.Running && len(j.Nodes) != len(j.Tasks)
	})
}
