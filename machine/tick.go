package machine

// tick does a tick; it tells whether the power held.
func (m *Machine) tick() bool { return m.deadlines() && m.watches() && m.window() }

// deadlines looks for processes that have missed theirs. A partition that is
// made idle by the fault of one has none of the next one.
func (m *Machine) deadlines() bool {
	for _, p := range m.partitions.All() {
		for _, q := range p.processes.All() {
			if !p.runs() || !q.late(m.now) {
				continue
			}
			q.deadline = never
			if !m.fault(p, q, late) {
				return false
			}
		}
	}
	return true
}

// watches looks for partitions whose watch is over.
func (m *Machine) watches() bool {
	if m.watch == 0 {
		return true
	}
	for _, p := range m.partitions.All() {
		if !p.runs() || m.now-p.watched < m.watch {
			continue
		}
		p.watched = m.now
		if !m.fault(p, nil, overdue) {
			return false
		}
	}
	return true
}

// window lets the partition whose window it is do an instruction.
func (m *Machine) window() bool {
	phase := m.now % m.frame
	for _, w := range m.windows.All() {
		if phase >= w.First && phase < w.First+w.Many {
			return m.turn(m.partitions.At(w.Part))
		}
	}
	return true
}

// turn lets the first process that is ready do its next instruction, of those
// with a greater priority first.
func (m *Machine) turn(p *partition) bool {
	if !p.runs() {
		return true
	}
	for _, place := range p.turns.All() {
		q := p.processes.At(*place)
		if !q.awake(m.now) {
			continue
		}
		if received, ready := m.receive(p, q); ready {
			return m.step(p, q, received)
		}
	}
	return true
}

// receive tells whether a process need not wait for a number, and the number
// that came, if it wants one. A Go channel tells what waits only by giving it
// away, so this is asked of a process only if it is next in turn.
func (m *Machine) receive(p *partition, q *process) (int, bool) {
	if !m.receives(p, q.code[q.Next]) {
		return 0, true
	}
	return m.channels.At(q.code[q.Next].Arg).receive()
}
