package journal

import (
	"bulwark/api"
	"bulwark/fixed"
)

// Journal is what is written down in a flash. It keeps nothing of it: the
// flash may be written into by others, and is read whenever it is asked.
type Journal struct{ flash *api.Flash }

// On is the journal in a flash.
func On(f *api.Flash) Journal { return Journal{f} }

// Log is the faults that are known, the oldest first.
func (j Journal) Log() []api.Record {
	active, other := j.sectors()
	return log(active, other)
}

// Faults is how many faults of a partition the log has.
func (j Journal) Faults(part int) int {
	many := 0
	for _, r := range j.Log() {
		if r.Part == part {
			many++
		}
	}
	return many
}

// Restarts is how often a partition was restarted by a fault.
func (j Journal) Restarts(part int) int {
	active, _ := j.sectors()
	return active.restarts(part)
}

// Append writes down a fault. It tells whether that was done as a whole; else the power is lost.
func (j Journal) Append(part, code, action int) bool {
	active, other := j.sectors()
	record := api.Record{Kind: api.Fault, Part: part, Code: code, Seq: following(log(active, other)), Arg: action}
	if free := active.free(); active.headed() && free < sectorSlots {
		return j.lay(active.place, free, record)
	}
	header := api.Record{Kind: api.Header, Seq: active.generation() + 1, Arg: active.allRestarts()}
	return j.flash.Erase(other.place) &&
		j.lay(other.place, headerSlot, header) &&
		j.lay(other.place, headerSlot+1, record)
}

// sectors is the active sector, and the other one. If there is no active one,
// the first is not headed, and the other is sector 0, since this is the one to
// be written into.
func (j Journal) sectors() (active, other sector) {
	first, second := j.read(0), j.read(1)
	if first.headed() && (!second.headed() || second.generation() <= first.generation()) {
		return first, second
	}
	return second, first
}

// log is the faults of the old sector, if there is one, and then those of the active one.
func log(active, other sector) []api.Record {
	if active.headed() && other.headed() && other.generation() == active.generation()-1 {
		return append(other.faults(), active.faults()...)
	}
	return active.faults()
}

// following is the number behind the greatest one of a log.
func following(log []api.Record) int {
	greatest := 0
	for _, r := range log {
		greatest = max(greatest, r.Seq)
	}
	return greatest + 1
}

// read is a sector, as it is in the flash now.
func (j Journal) read(place int) sector {
	slots := fixed.Make(sectorSlots, func(slot int) entry {
		sort, record, _ := Sort(j.bytes(place, slot))
		return entry{sort, record}
	})
	return sector{place, slots}
}

// bytes is a slot's bytes.
func (j Journal) bytes(place, slot int) []byte {
	var bytes []byte
	for at := range api.SlotBytes {
		bytes = append(bytes, j.flash.Read(slotAt(place, slot)+at))
	}
	return bytes
}

// lay lays a record into a slot. The commit comes last: until then the slot is
// torn, and nothing is believed of it.
func (j Journal) lay(place, slot int, r api.Record) bool {
	bytes := Slot(r)
	first := slotAt(place, slot)
	for at := kindAt; at < api.SlotBytes; at++ {
		if !j.flash.Program(first+at, bytes[at]) {
			return false
		}
	}
	return j.flash.Program(first+commitAt, bytes[commitAt])
}

// slotAt is where a slot begins in the flash.
func slotAt(place, slot int) int { return place*api.SectorBytes + slot*api.SlotBytes }
