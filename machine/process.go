package machine

import "bulwark/api"

// never is the deadline of a process that has none. One that is set is at
// least a tick ahead, and so is never this.
const never = 0

// process is a program, and how far it has come.
type process struct {
	code []api.Ins
	progress
}

// progress is all of a process that is lost when it is begun anew.
type progress struct {
	api.State
	wakes, deadline int
}

// begin begins the process anew.
func (q *process) begin() { q.progress = progress{} }

// awake tells whether the process is neither stopped nor asleep.
func (q *process) awake(now int) bool { return !q.Stopped && now >= q.wakes }

// late tells whether the process has missed its deadline.
func (q *process) late(now int) bool {
	return !q.Stopped && q.deadline != never && now >= q.deadline
}

// follow lets an instruction be the next one; the process is stopped, if there is none there.
func (q *process) follow(next int) {
	q.Next = next
	q.Stopped = next >= len(q.code)
}
