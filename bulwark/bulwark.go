// Package bulwark: partitions that cannot harm one another, and a journal of their faults: see DOC.md.
package bulwark

import (
	"bulwark/api"
	"bulwark/journal"
	"bulwark/machine"
	"bulwark/plan"
)

// Kernel runs partitions.
type Kernel struct{ machine *machine.Machine }

// Slot is the slot of a record (P3).
func Slot(r api.Record) []byte { return journal.Slot(r) }

// Sort tells what a slot is (P3).
func Sort(slot []byte) (int, api.Record, api.Errno) { return journal.Sort(slot) }

// Parse reads a configuration (P4).
func Parse(config []byte) (api.Config, int, api.Errno) { return plan.Parse(config) }

// Boot starts a kernel (P5).
func Boot(config []byte, f *api.Flash) (*Kernel, api.Errno) {
	c, _, errno := plan.Parse(config)
	if errno != api.OK {
		return nil, errno
	}
	return &Kernel{machine.Start(c, f)}, api.OK
}

// Tick runs (P6).
func (k *Kernel) Tick(n int) (int, api.Errno) { return k.machine.Tick(n) }

// Inject makes a fault (P6).
func (k *Kernel) Inject(partition int, process int, code int) api.Errno {
	return k.machine.Inject(partition, process, code)
}

// Now is the number of the next tick (P7).
func (k *Kernel) Now() int { return k.machine.Now() }

// Look tells how a partition is (P7).
func (k *Kernel) Look(partition int) (api.View, api.Errno) { return k.machine.Look(partition) }

// Log is the log (P7).
func (k *Kernel) Log() []api.Record { return k.machine.Log() }
