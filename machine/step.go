package machine

import "bulwark/api"

// step does a process's next instruction, with what was received for it; it tells whether the power held.
func (m *Machine) step(p *partition, q *process, received int) bool {
	ins := q.code[q.Next]
	q.follow(q.Next + 1)
	code := m.do(p, q, ins, received)
	return code == none || m.fault(p, q, code)
}

// do does an instruction, and tells the code of the fault that it makes, or none.
func (m *Machine) do(p *partition, q *process, ins api.Ins, received int) int {
	switch ins.Op {
	case api.ADD:
		q.Acc += int(int8(ins.Arg))
	case api.STORE, api.LOAD, api.DIV:
		return p.access(q, ins)
	case api.JNZ:
		if q.Acc != 0 {
			q.follow(ins.Arg)
		}
	case api.WAIT:
		q.wakes = m.now + ins.Arg
	case api.SEND:
		return m.send(p, q, ins)
	case api.RECV:
		if !m.receives(p, ins) {
			return forbidden
		}
		q.Acc = received
	case api.RAISE:
		return raised
	case api.PET:
		p.watched = m.now
	case api.STOP:
		q.Stopped = true
	case api.DEADLINE:
		q.deadline = m.deadline(ins.Arg)
	case api.LOG:
		return m.count(p, q, ins)
	}
	return none
}

// access does an instruction with a word of the partition.
func (p *partition) access(q *process, ins api.Ins) int {
	if !p.words.Has(ins.Arg) {
		return outside
	}
	word := p.words.At(ins.Arg)
	switch ins.Op {
	case api.STORE:
		*word = q.Acc
	case api.LOAD:
		q.Acc = *word
	case api.DIV:
		if *word == 0 {
			return byNought
		}
		q.Acc /= *word
	}
	return none
}

// send sends the accumulator, if the channel is one of the partition.
func (m *Machine) send(p *partition, q *process, ins api.Ins) int {
	if !m.channels.Has(ins.Arg) || m.channels.At(ins.Arg).from != p.number {
		return forbidden
	}
	m.channels.At(ins.Arg).send(q.Acc)
	return none
}

// receives tells whether an instruction receives from a channel to the partition.
func (m *Machine) receives(p *partition, ins api.Ins) bool {
	return ins.Op == api.RECV && m.channels.Has(ins.Arg) && m.channels.At(ins.Arg).to == p.number
}

// deadline is the tick that is so many from this one on; never, if there are none.
func (m *Machine) deadline(ticks int) int {
	if ticks == 0 {
		return never
	}
	return m.now + ticks
}

// count counts the faults of any partition, for one of the system.
func (m *Machine) count(p *partition, q *process, ins api.Ins) int {
	if !p.system {
		return forbidden
	}
	q.Acc = m.journal.Faults(ins.Arg)
	return none
}
