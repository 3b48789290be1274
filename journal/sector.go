package journal

import (
	"bulwark/api"
	"bulwark/fixed"
	"bulwark/wire"
)

const (
	sectorSlots = api.SectorBytes / api.SlotBytes
	headerSlot  = 0
	mostCounted = 255
)

// entry is a slot, as Sort tells it.
type entry struct {
	sort   int
	record api.Record
}

// sector is what a sector of the flash said when it was read.
type sector struct {
	place int
	slots fixed.List[entry]
}

// is tells whether a slot is good, and of this kind.
func (e entry) is(kind int) bool { return e.sort == api.Good && e.record.Kind == kind }

// header is the record that heads the sector; one of noughts, if it is not headed.
func (s sector) header() api.Record {
	if !s.headed() {
		return api.Record{}
	}
	return s.slots.At(headerSlot).record
}

// headed tells whether what the sector says counts.
func (s sector) headed() bool { return s.slots.At(headerSlot).is(api.Header) }

// generation is that of the header; 0, if there is none.
func (s sector) generation() int { return s.header().Seq }

// faults is the records of the faults; none, if the sector is not headed.
func (s sector) faults() []api.Record {
	var faults []api.Record
	for _, slot := range s.slots.All() {
		if s.headed() && slot.is(api.Fault) {
			faults = append(faults, slot.record)
		}
	}
	return faults
}

// restarts is how often a partition was restarted, as the sector says.
func (s sector) restarts(part int) int {
	counts := wire.Append(nil, uint32(s.header().Arg))
	many := int(counts[part])
	for _, r := range s.faults() {
		if r.Part == part && (r.Arg == api.Warmly || r.Arg == api.Coldly) {
			many++
		}
	}
	return min(many, mostCounted)
}

// allRestarts is the restarts of all partitions, as a header tells them.
func (s sector) allRestarts() int {
	var counts []byte
	for part := range api.MaxPartitions {
		counts = append(counts, byte(s.restarts(part)))
	}
	return int(wire.Number(counts))
}

// free is the first slot behind the last one that is not blank. A blank one
// ahead of it is left alone, so that the log stays in order.
func (s sector) free() int {
	free := 0
	for at, slot := range s.slots.All() {
		if slot.sort != api.Blank {
			free = at + 1
		}
	}
	return free
}
