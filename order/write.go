package order

import (
	"strconv"
	"strings"

	"drover/api"
)

// lineOf is the line of words that have no need of quotation marks.
func lineOf(words []string) (string, api.Errno) {
	line := strings.Join(words, " ")
	if len(line) > api.MaxLine {
		return "", api.ErrLong
	}
	return line, api.OK
}

// wordsOf are the words of a formed command's line.
func wordsOf(c Command) []string {
	words := []string{forms[c.Kind].first}
	switch c.Kind {
	case tenant:
		words = append(words, c.Tenant.Name, decimal(c.Tenant.Weight), vectorWord(c.Tenant.Quota))
	case submit:
		words = append(words, wordsOfJob(c.Job)...)
	case cancel, query:
		words = append(words, decimal(c.Number))
	case up:
		words = append(words, c.Node, decimal(c.Epoch), vectorWord(c.Vector))
	case beat:
		words = append(words, c.Node, decimal(c.Epoch))
	case done, fail:
		words = append(words, c.Node, decimal(c.Epoch), decimal(c.Number), decimal(c.Attempt))
	}
	return words
}

func wordsOfJob(j api.Job) []string {
	words := []string{decimal(j.ID), j.Tenant, decimal(j.Priority), decimal(j.Runtime), listWord(j.Parents)}
	for _, task := range j.Tasks {
		words = append(words, vectorWord(task))
	}
	return words
}

func decimal(n int64) string {
	return strconv.FormatInt(n, 10)
}

func vectorWord(v api.Vector) string {
	return decimals(v[:], ":")
}

func listWord(l []int64) string {
	if len(l) == 0 {
		return "-"
	}
	return decimals(l, ",")
}

// decimals are numbers as a word, with a mark between them.
func decimals(l []int64, mark string) string {
	var parts []string
	for _, n := range l {
		parts = append(parts, decimal(n))
	}
	return strings.Join(parts, mark)
}

func stateWord(state int) string {
	switch state {
	case api.Waiting:
		return "waiting"
	case api.Ready:
		return "ready"
	case api.Running:
		return "running"
	case api.Succeeded:
		return "succeeded"
	case api.Failed:
		return "failed"
	case api.Cancelled:
		return "cancelled"
	}
	return "unknown"
}
