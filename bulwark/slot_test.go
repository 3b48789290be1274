package bulwark_test

import (
	"bytes"
	"encoding/binary"
	"hash/crc32"
	"math"
	"testing"

	"bulwark/api"
	"bulwark/bulwark"
)

// sealed is some bytes, and their check.
func sealed(b []byte) []byte {
	return binary.BigEndian.AppendUint32(bytes.Clone(b), crc32.ChecksumIEEE(b))
}

// turned is some bytes, but for one.
func turned(b []byte, at int, v byte) []byte {
	c := bytes.Clone(b)
	c[at] = v
	return c
}

// sample is the record of the document's first example.
var sample = api.Record{Kind: 1, Part: 2, Code: 3, Seq: 258, Arg: 4}

func TestP3SlotOfARecord(t *testing.T) {
	least := math.MinInt
	for _, c := range []struct {
		r    api.Record
		want []byte
	}{
		{sample, []byte{1, 2, 3, 0, 0, 1, 2, 0, 0, 0, 4}},
		{api.Record{}, make([]byte, 11)},
		{api.Record{Kind: 2, Seq: 0x01020304, Arg: 0x05060708}, []byte{2, 0, 0, 1, 2, 3, 4, 5, 6, 7, 8}},
		{api.Record{Kind: 255, Part: 255, Code: 255, Seq: 1<<32 - 1, Arg: 1<<32 - 1}, bytes.Repeat([]byte{255}, 11)},
		{api.Record{Kind: 256, Part: 257, Code: 511, Seq: 1 << 32, Arg: 1<<32 + 7}, []byte{0, 1, 255, 0, 0, 0, 0, 0, 0, 0, 7}},
		{api.Record{Kind: -1, Part: -256, Code: -257, Seq: -1, Arg: -1 << 32}, []byte{255, 0, 255, 255, 255, 255, 255, 0, 0, 0, 0}},
		{api.Record{Kind: math.MaxInt, Part: least, Code: least + 1, Seq: math.MaxInt, Arg: least}, []byte{255, 0, 1, 255, 255, 255, 255, 0, 0, 0, 0}},
	} {
		want := append([]byte{0}, sealed(c.want)...)
		if b := bulwark.Slot(c.r); !bytes.Equal(b, want) {
			t.Errorf("P3: Slot of %+v: %v, want %v", c.r, b, want)
		}
	}
}

func TestP3SortOfASlot(t *testing.T) {
	good := bulwark.Slot(sample)
	blank := bytes.Repeat([]byte{255}, api.SlotBytes)
	full := append([]byte{0}, sealed(bytes.Repeat([]byte{255}, 11))...)
	for _, c := range []struct {
		name string
		slot []byte
		sort int
		r    api.Record
	}{
		{"erased", blank, api.Blank, api.Record{}},
		{"erased, but committed", turned(blank, 0, 0), api.Corrupt, api.Record{}},
		{"noughts", make([]byte, api.SlotBytes), api.Corrupt, api.Record{}},
		{"good", good, api.Good, sample},
		{"good, of no record at all", bulwark.Slot(api.Record{}), api.Good, api.Record{}},
		{"good, with the greatest numbers", full, api.Good, api.Record{Kind: 255, Part: 255, Code: 255, Seq: 1<<32 - 1, Arg: 1<<32 - 1}},
	} {
		if n, r, e := bulwark.Sort(c.slot); n != c.sort || r != c.r || e != api.OK {
			t.Errorf("P3: Sort, %s: %d, %+v, %d, want %d, %+v, 0", c.name, n, r, e, c.sort, c.r)
		}
	}
}

func TestP3SortOfASlotWithOneByteTurned(t *testing.T) {
	good := bulwark.Slot(sample)
	for at := range good {
		for v := range 256 {
			if byte(v) == good[at] {
				continue
			}
			want := api.Corrupt
			if at == 0 {
				want = api.Torn
			}
			if n, r, e := bulwark.Sort(turned(good, at, byte(v))); n != want || r != (api.Record{}) || e != api.OK {
				t.Errorf("P3: Sort, byte %d is %d: %d, %+v, %d, want %d", at, v, n, r, e, want)
			}
		}
	}
}

// A slot that is being laid is blank or torn until its commit, whatever was laid.
func TestP3SortOfASlotThatIsBeingLaid(t *testing.T) {
	good := bulwark.Slot(sample)
	slot := bytes.Repeat([]byte{255}, api.SlotBytes)
	for at := 1; at < api.SlotBytes; at++ {
		slot[at] = good[at]
		if n, r, e := bulwark.Sort(slot); n != api.Torn || r != (api.Record{}) || e != api.OK {
			t.Errorf("P3: Sort, laid up to %d: %d, %+v, %d, want Torn", at, n, r, e)
		}
	}
	for _, commit := range []byte{1, 2, 64, 127, 128, 254} {
		if n, _, _ := bulwark.Sort(turned(slot, 0, commit)); n != api.Torn {
			t.Errorf("P3: Sort, commit %d: %d, want Torn", commit, n)
		}
	}
}

func TestP3SortRefusesOtherLengths(t *testing.T) {
	long := append(bulwark.Slot(sample), bulwark.Slot(sample)...)
	for many := range len(long) + 1 {
		if many == api.SlotBytes {
			continue
		}
		if n, r, e := bulwark.Sort(long[:many]); n != 0 || r != (api.Record{}) || e != api.ErrArg {
			t.Errorf("P3: Sort of %d bytes: %d, %+v, %d, want ErrArg", many, n, r, e)
		}
	}
}

func TestP3SortUndoesSlot(t *testing.T) {
	for n := range 256 {
		r := api.Record{Kind: n, Part: 255 - n, Code: n ^ 85, Seq: n * 16843009, Arg: (255 - n) << 24}
		if sort, back, e := bulwark.Sort(bulwark.Slot(r)); sort != api.Good || back != r || e != api.OK {
			t.Errorf("P3: Sort of Slot of %+v: %d, %+v, %d", r, sort, back, e)
		}
	}
}
