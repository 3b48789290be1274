package machine

import "bulwark/api"

// The codes of faults.
const (
	none      = -1
	outside   = 0 // there is no such word
	byNought  = 1 // a division
	late      = 2 // a deadline
	raised    = 3 // by RAISE
	forbidden = 4 // a channel or the log, of others
	overdue   = 5 // a watch
)

// fault writes down a fault, and only then does what the table says; it tells
// whether the power held. Of a watch there is no process.
func (m *Machine) fault(p *partition, q *process, code int) bool {
	action := m.action(p, code)
	if !m.journal.Append(p.number, code, action) {
		return false
	}
	m.act(p, q, action)
	return true
}

// action is that of the table, but a partition that fell too often is not restarted.
func (m *Machine) action(p *partition, code int) int {
	action := p.actions[code]
	restart := action == api.Warmly || action == api.Coldly
	if restart && m.journal.Restarts(p.number) >= p.limit {
		return api.Idly
	}
	return action
}

// act does an action. Of a watch it is never one of those that need a process:
// the configuration would have been refused.
func (m *Machine) act(p *partition, q *process, action int) {
	switch action {
	case api.Stop:
		q.Stopped = true
	case api.Again:
		q.begin()
	case api.Warmly:
		p.restart(api.Warm, m.now)
	case api.Coldly:
		p.restart(api.Cold, m.now)
	case api.Idly:
		p.mode = api.Idle
	case api.Resetly:
		m.reset()
	}
}

// reset restarts all partitions that run.
func (m *Machine) reset() {
	for _, p := range m.partitions.All() {
		if p.runs() {
			p.restart(api.Cold, m.now)
		}
	}
}
