package locks

import (
	"slices"

	"argosy/api"
)

// line is who waits for one key, in order.
type line struct {
	queue, parked []waiter
}

// waiter is a try with its mark of a line's key.
type waiter struct {
	tag  api.Tag
	mark api.Mark
}

// is gives a function that tells whether a waiter is this try.
func is(tag api.Tag) func(waiter) bool {
	return func(w waiter) bool { return w.tag == tag }
}

// has tells whether a try waits in a line.
func (at *line) has(tag api.Tag) bool {
	return slices.ContainsFunc(at.queue, is(tag)) || slices.ContainsFunc(at.parked, is(tag))
}

// ahead gives those that stand ahead of a try; none, if it doesn't stand there.
func (at *line) ahead(tag api.Tag) []waiter {
	return at.queue[:max(slices.IndexFunc(at.queue, is(tag)), 0)]
}

func (at *line) empty() bool {
	return len(at.queue) == 0 && len(at.parked) == 0
}

// tags gives the tries of waiters, as new memory.
func tags(waiters []waiter) []api.Tag {
	var all []api.Tag
	for _, w := range waiters {
		all = append(all, w.tag)
	}
	return all
}
