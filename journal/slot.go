// Package journal writes down faults, into the slots of a flash.
package journal

import (
	"bulwark/api"
	"bulwark/wire"
)

// The places in a slot.
const (
	commitAt   = 0
	kindAt     = 1
	partAt     = 2
	codeAt     = 3
	seqAt      = 4
	argumentAt = 8
	checkAt    = 12
)

const (
	committed = 0
	erased    = 255
)

// Slot is the slot of a record, as it is when it was laid.
func Slot(r api.Record) []byte {
	slot := make([]byte, 0, api.SlotBytes)
	slot = append(slot, committed, byte(r.Kind), byte(r.Part), byte(r.Code))
	slot = wire.Append(slot, uint32(r.Seq))
	slot = wire.Append(slot, uint32(r.Arg))
	return wire.Append(slot, wire.Check(slot[kindAt:checkAt]))
}

// Sort tells what a slot is, and the record of a good one.
func Sort(slot []byte) (int, api.Record, api.Errno) {
	switch {
	case len(slot) != api.SlotBytes:
		return 0, api.Record{}, api.ErrArg
	case blank(slot):
		return api.Blank, api.Record{}, api.OK
	case slot[commitAt] != committed:
		return api.Torn, api.Record{}, api.OK
	case wire.Number(slot[checkAt:]) != wire.Check(slot[kindAt:checkAt]):
		return api.Corrupt, api.Record{}, api.OK
	}
	return api.Good, record(slot), api.OK
}

// blank tells whether all bytes of a slot are erased.
func blank(slot []byte) bool {
	for _, b := range slot {
		if b != erased {
			return false
		}
	}
	return true
}

// record is what a good slot says.
func record(slot []byte) api.Record {
	return api.Record{
		Kind: int(slot[kindAt]),
		Part: int(slot[partAt]),
		Code: int(slot[codeAt]),
		Seq:  int(wire.Number(slot[seqAt:argumentAt])),
		Arg:  int(wire.Number(slot[argumentAt:checkAt])),
	}
}
