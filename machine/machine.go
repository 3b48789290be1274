// Package machine runs partitions in windows of time, tick by tick.
package machine

import (
	"bulwark/api"
	"bulwark/fixed"
	"bulwark/journal"
)

// Machine is the partitions of a configuration, and what they have done.
type Machine struct {
	journal      journal.Journal
	frame, watch int
	partitions   fixed.List[partition]
	windows      fixed.List[api.Window]
	channels     fixed.List[channel]
	now          int
	lost         bool
}

// Start is a machine ahead of its first tick, as the log in the flash says. It
// keeps the lists of the configuration.
func Start(c api.Config, f *api.Flash) *Machine {
	written := journal.On(f)
	log := written.Log()
	return &Machine{
		journal: written,
		frame:   c.Frame,
		watch:   c.Watch,
		partitions: fixed.Make(len(c.Parts), func(at int) partition {
			return start(at, c.Parts[at], modeBehind(log, at))
		}),
		windows:  fixed.Make(len(c.Windows), func(at int) api.Window { return c.Windows[at] }),
		channels: fixed.Make(len(c.Channels), func(at int) channel { return open(c.Channels[at]) }),
	}
}

// modeBehind is the mode in which a partition starts, behind a log.
func modeBehind(log []api.Record, part int) int {
	mode := api.Cold
	for _, r := range log {
		switch {
		case r.Part != part:
		case r.Arg == api.Idly:
			mode = api.Idle
		case r.Arg == api.Warmly:
			mode = api.Warm
		default:
			mode = api.Cold
		}
	}
	return mode
}

// Tick does so many ticks, and tells how many were done as a whole.
func (m *Machine) Tick(n int) (done int, errno api.Errno) {
	if n < 0 || n > api.MaxTicks {
		return 0, api.ErrArg
	}
	if m.lost {
		return 0, api.ErrPower
	}
	defer m.note(&errno)
	for range n {
		if !m.tick() {
			return done, api.ErrPower
		}
		m.now++
		done++
	}
	return done, api.OK
}

// Inject lets there be a fault of a process.
func (m *Machine) Inject(part, place, code int) (errno api.Errno) {
	if !m.partitions.Has(part) || !m.partitions.At(part).processes.Has(place) || code < 0 || code >= overdue {
		return api.ErrArg
	}
	if m.lost {
		return api.ErrPower
	}
	defer m.note(&errno)
	p := m.partitions.At(part)
	if p.runs() && !m.fault(p, p.processes.At(place), code) {
		return api.ErrPower
	}
	return api.OK
}

// note is deferred by calls that write into the journal: once the power was
// lost there, the machine is left as it is for good, even if the flash has
// power again.
func (m *Machine) note(errno *api.Errno) { m.lost = *errno == api.ErrPower }

// Now is the number of the next tick.
func (m *Machine) Now() int { return m.now }

// Look tells how a partition is.
func (m *Machine) Look(part int) (api.View, api.Errno) {
	if !m.partitions.Has(part) {
		return api.View{}, api.ErrArg
	}
	return m.partitions.At(part).view(m.journal.Restarts(part)), api.OK
}

// Log is the log, as it is in the flash now.
func (m *Machine) Log() []api.Record { return m.journal.Log() }
