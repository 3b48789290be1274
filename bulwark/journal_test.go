package bulwark_test

import (
	"bytes"
	"slices"
	"testing"

	"bulwark/api"
	"bulwark/bulwark"
)

const (
	lastNumber = 1<<32 - 1
	slotWrites = api.SlotBytes
)

// laid is the slot that Inject(part, 0, 2) lays, in a configuration in which every fault is ignored.
func laid(part, seq int) []byte {
	return bulwark.Slot(api.Record{Kind: api.Fault, Part: part, Code: 2, Seq: seq, Arg: api.Ignore})
}

// appended is a case: a flash, the partition of a fault, and the flash behind it.
type appended struct {
	name            string
	first, second   []byte
	part            int
	first2, second2 []byte
	writes          int
}

// cases is the ways in which a fault is appended.
func cases() []appended {
	noughts := make([]byte, api.SectorBytes)
	seven := slots(header(5, 1, 2, 3, 4), fault(0, 1, 4), fault(1, 2, 5), fault(1, 3, 4), fault(2, 4, 6), fault(3, 5, 7), fault(9, 6, 4), fault(0, 9, 1))
	next := slots(header(6, 2, 4, 3, 4), laid(3, 10))
	rotation := 1 + 2*slotWrites
	with := func(sector []byte, slot int, b []byte) []byte {
		return slices.Concat(sector[:slot*api.SlotBytes], b, sector[(slot+1)*api.SlotBytes:])
	}
	return []appended{
		{"erased", slots(), slots(), 2, slots(header(1), laid(2, 1)), slots(), rotation},
		{"no header", noughts, noughts, 0, slots(header(1), laid(0, 1)), noughts, rotation},
		{"no header, but faults", slots(spoilt, fault(1, 8, 4)), slots(blankSlot, fault(1, 9, 4)), 1, slots(header(1), laid(1, 1)), slots(blankSlot, fault(1, 9, 4)), rotation},
		{"a header alone", slots(), slots(header(4, 1)), 1, slots(), slots(header(4, 1), laid(1, 1)), slotWrites},
		{"the second fault", slots(header(1), fault(0, 1, 1)), slots(), 1, slots(header(1), fault(0, 1, 1), laid(1, 2)), slots(), slotWrites},
		{"behind a torn slot", slots(header(1), fault(0, 1, 1), tornSlot), slots(), 1, slots(header(1), fault(0, 1, 1), tornSlot, laid(1, 2)), slots(), slotWrites},
		{"behind a corrupt slot", slots(header(1), spoilt), slots(), 1, slots(header(1), spoilt, laid(1, 1)), slots(), slotWrites},
		{"behind a blank slot", slots(header(1), blankSlot, fault(0, 7, 1)), slots(), 1, slots(header(1), blankSlot, fault(0, 7, 1), laid(1, 8)), slots(), slotWrites},
		{"into slot 7", with(seven, 7, blankSlot), slots(), 0, with(seven, 7, laid(0, 7)), slots(), slotWrites},
		{"slot 7 is good", seven, slots(), 3, seven, next, rotation},
		{"slot 7 is good, in sector 1", noughts, seven, 3, next, seven, rotation},
		{"slot 7 is torn", slots(), with(seven, 7, tornSlot), 1, slots(header(6, 2, 4, 3, 4), laid(1, 7)), with(seven, 7, tornSlot), rotation},
		{"slot 7 alone is corrupt", with(slots(header(1)), 7, spoilt), noughts, 1, with(slots(header(1)), 7, spoilt), slots(header(2), laid(1, 1)), rotation},
		{"the old one is erased", seven, slots(header(4, 9, 9, 9, 9), fault(0, 20, 4)), 3, seven, slots(header(6, 2, 4, 3, 4), laid(3, 21)), rotation},
		{"one that is not old is erased", slots(header(3, 9, 9, 9, 9), fault(0, 20, 4)), seven, 3, next, seven, rotation},
		{"the same generation", seven, seven, 3, seven, next, rotation},
		{"the greatest number of the old one", slots(header(2), fault(0, 3, 1)), slots(header(1), fault(0, 77, 1), fault(0, 2, 1)), 1, slots(header(2), fault(0, 3, 1), laid(1, 78)), slots(header(1), fault(0, 77, 1), fault(0, 2, 1)), slotWrites},
		{"not of one that is not old", slots(header(3), fault(0, 3, 1)), slots(header(1), fault(0, 77, 1)), 1, slots(header(3), fault(0, 3, 1), laid(1, 4)), slots(header(1), fault(0, 77, 1)), slotWrites},
		{"numbers wrap round", slots(header(1), fault(0, lastNumber, 1)), slots(), 1, slots(header(1), fault(0, lastNumber, 1), laid(1, 0)), slots(), slotWrites},
		{"a log with 0 is not empty", slots(header(1), fault(0, 0, 1)), slots(), 1, slots(header(1), fault(0, 0, 1), laid(1, 1)), slots(), slotWrites},
		{"generations wrap round", with(slots(header(lastNumber, 1)), 7, fault(0, 3, 4)), slots(), 1, with(slots(header(lastNumber, 1)), 7, fault(0, 3, 4)), slots(header(0, 2), laid(1, 4)), rotation},
		{"restarts end at 255", with(slots(header(1, 255, 254, 254, 255), fault(0, 1, 4), fault(1, 2, 5), fault(2, 3, 5), fault(2, 4, 4)), 7, spoilt), slots(), 1,
			with(slots(header(1, 255, 254, 254, 255), fault(0, 1, 4), fault(1, 2, 5), fault(2, 3, 5), fault(2, 4, 4)), 7, spoilt), slots(header(2, 255, 255, 255, 255), laid(1, 5)), rotation},
	}
}

func TestP6AppendsToTheJournal(t *testing.T) {
	for _, c := range cases() {
		f := flashOf(c.first, c.second)
		k := booted(t, quiet("111111"), f)
		inject(t, k, c.part, 0, 2)
		if want := flashOf(c.first2, c.second2).Bytes(); !bytes.Equal(f.Bytes(), want) {
			t.Errorf("P6: a fault, %s: the flash is\n%v, want\n%v", c.name, f.Bytes(), want)
		}
		if f.Done() != c.writes {
			t.Errorf("P6: a fault, %s: %d writes, want %d", c.name, f.Done(), c.writes)
		}
	}
}

// after is a flash behind so many of the writes of a case: erasing, then the bytes of each slot, its commit last.
func (c appended) after(writes int) []byte {
	b := flashOf(c.first, c.second).Bytes()
	end := flashOf(c.first2, c.second2).Bytes()
	var order, changed []int
	for slot := range 2 * api.SectorBytes / api.SlotBytes {
		at := slot * api.SlotBytes
		good, _, _ := bulwark.Sort(end[at : at+api.SlotBytes])
		if !bytes.Equal(b[at:at+api.SlotBytes], end[at:at+api.SlotBytes]) && good == api.Good {
			changed = append(changed, at)
		}
	}
	if c.writes > slotWrites && writes > 0 {
		sector := changed[0] / api.SectorBytes * api.SectorBytes
		copy(b[sector:], slots())
		writes--
	}
	for _, at := range changed {
		for n := 1; n < api.SlotBytes; n++ {
			order = append(order, at+n)
		}
		order = append(order, at)
	}
	for _, at := range order[:min(writes, len(order))] {
		b[at] = end[at]
	}
	return b
}

// The power is lost ahead of every single write, so that their order can be seen.
func TestP6TheOrderOfWrites(t *testing.T) {
	for _, c := range cases() {
		if c.name == "the same generation" {
			continue // there the slots that change cannot be told by their bytes
		}
		for writes := range c.writes {
			f := flashOf(c.first, c.second)
			k := booted(t, quiet("111111"), f)
			residue := byte(255) // of a byte: nothing is cleared
			if c.writes > slotWrites && writes == 0 {
				residue = 0 // of a sector: nothing is erased
			}
			f.Cut(writes, residue)
			if e := k.Inject(c.part, 0, 2); e != api.ErrPower {
				t.Errorf("P6: a fault, %s, %d writes: %d, want ErrPower", c.name, writes, e)
			}
			if want := c.after(writes); !bytes.Equal(f.Bytes(), want) {
				t.Errorf("P6: a fault, %s, %d writes: the flash is\n%v, want\n%v", c.name, writes, f.Bytes(), want)
			}
		}
	}
}

// Behind an active sector that is full all is as it was ahead, but for the log's oldest faults.
func TestP6TheJournalGoesRound(t *testing.T) {
	f := api.NewFlash(nil)
	k := booted(t, quiet("114111"), f)
	var all []api.Record
	for n := 1; n <= 60; n++ {
		part := n * n % 4
		code := n % 2
		if n%11 == 0 {
			code = 2
		}
		inject(t, k, part, 0, code)
		all = append(all, api.Record{Kind: api.Fault, Part: part, Code: code, Seq: n, Arg: []int{1, 1, 4}[code]})
		many := n
		if n > 7 {
			many = 7 + (n-1)%7 + 1
		}
		if log := k.Log(); !slices.Equal(log, all[n-many:]) {
			t.Fatalf("P7: the log behind %d faults: %+v, want %+v", n, log, all[n-many:])
		}
		restarts := [4]int{}
		for _, r := range all {
			if r.Arg == api.Warmly {
				restarts[r.Part]++
			}
		}
		for part, many := range restarts {
			if v, _ := k.Look(part); v.Restarts != many {
				t.Fatalf("P7: the restarts of %d behind %d faults: %d, want %d", part, n, v.Restarts, many)
			}
		}
	}
}
