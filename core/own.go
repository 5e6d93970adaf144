package core

import (
	"slices"
	"strings"

	"drover/api"
)

// own is a record in memory of its own: of one of the eleven types, as a value. So what is asked for its type is of the program's own making, whatever came in, and may be kept.
func own(r api.Record) api.Record {
	p := api.Plainly(r)
	p.Tenant.Name = strings.Clone(p.Tenant.Name)
	p.Node = strings.Clone(p.Node)
	p.Job = ownJob(p.Job)
	p.Nodes = ownTexts(p.Nodes)
	return api.Make(p)
}

// copied is a state in memory of its own.
func copied(s State) State {
	s.Tenants = slices.Clone(s.Tenants)
	for i := range s.Tenants {
		s.Tenants[i].Name = strings.Clone(s.Tenants[i].Name)
	}
	s.Nodes = slices.Clone(s.Nodes)
	for i := range s.Nodes {
		s.Nodes[i].Name = strings.Clone(s.Nodes[i].Name)
	}
	s.Jobs = slices.Clone(s.Jobs)
	for i := range s.Jobs {
		s.Jobs[i] = ownJob(s.Jobs[i])
	}
	return s
}

func ownJob(j api.Job) api.Job {
	j.Tenant = strings.Clone(j.Tenant)
	j.Parents = slices.Clone(j.Parents)
	j.Tasks = slices.Clone(j.Tasks)
	j.Nodes = ownTexts(j.Nodes)
	j.Done = ownTexts(j.Done)
	return j
}

func ownTexts(l []string) []string {
	var texts []string
	for _, s := range l {
		texts = append(texts, strings.Clone(s))
	}
	return texts
}
