package bulwark_test

import (
	"bytes"
	"math"
	"math/rand/v2"
	"reflect"
	"testing"

	"bulwark/api"
	"bulwark/bulwark"
)

func TestP1NoCallPanics(t *testing.T) {
	for _, n := range []int{math.MinInt, math.MinInt32, -1 << 32, -257, -256, -1, 0, 1, 255, 256, 1<<31 - 1, 1 << 31, 1<<32 - 1, 1 << 32, math.MaxInt} {
		if b := bulwark.Slot(api.Record{Kind: n, Part: n, Code: n, Seq: n, Arg: n}); len(b) != api.SlotBytes {
			t.Errorf("P1: Slot of %d: %v", n, b)
		}
	}
	r := rand.New(rand.NewPCG(3, 4))
	for many := range 600 {
		b := make([]byte, many)
		for at := range b {
			b[at] = byte(r.IntN(256))
		}
		for _, first := range []byte{0, 72, 255} {
			if many > 0 {
				b[0] = first
			}
			sortAndParse(t, b)
		}
	}
	config := written(greatest())
	for at := range config {
		for _, v := range []byte{0, 1, 2, 127, 128, 254, 255} {
			sortAndParse(t, turned(config, at, v))
		}
	}
}

// sortAndParse asks that beside an error there is nothing but a place, and that this is one of the list, or its end.
func sortAndParse(t *testing.T, b []byte) {
	t.Helper()
	if n, r, e := bulwark.Sort(b); e != api.OK && (n != 0 || r != (api.Record{})) {
		t.Errorf("P1: Sort of %v: %d, %+v beside %d", b, n, r, e)
	}
	c, at, e := bulwark.Parse(b)
	if e != api.OK && !reflect.DeepEqual(c, api.Config{}) {
		t.Errorf("P1: Parse of %v: %+v beside %d", b, c, e)
	}
	if at < 0 || at > len(b) || e == api.OK && at != 0 {
		t.Errorf("P1: Parse of %v: %d, %d", b, at, e)
	}
}

// roomy is a list with spare room, all of it 77, and the whole of it.
func roomy(b []byte) (list, whole []byte) {
	whole = append(bytes.Clone(b), bytes.Repeat([]byte{77}, 64)...)
	return whole[:len(b)], whole
}

func TestP2NothingHandedInIsWrittenInto(t *testing.T) {
	lists := [][]byte{nil, {73}, bytes.Repeat([]byte{255}, 16), make([]byte, 16), bulwark.Slot(sample), written(least()), written(greatest()), written(greatest())[:100], append(written(least()), 0)}
	for _, b := range lists {
		list, whole := roomy(b)
		bulwark.Sort(list)
		bulwark.Parse(list)
		if _, want := roomy(b); !bytes.Equal(whole, want) {
			t.Errorf("P2: %v became %v", want, whole)
		}
	}
}

func TestP2NothingHandedInIsKept(t *testing.T) {
	config := written(wantFields())
	c, _, _ := bulwark.Parse(config)
	clear(config)
	if !reflect.DeepEqual(c, wantFields()) {
		t.Errorf("P2: the answer of Parse is changed by its argument: %+v", c)
	}
	taken(t, "behind another one that was cleared", written(wantFields()), wantFields())
}

func TestP2SlotsAreNewMemory(t *testing.T) {
	first, want := bulwark.Slot(sample), bulwark.Slot(sample)
	second := bulwark.Slot(sample)
	clear(first[:cap(first)])
	if !bytes.Equal(second, want) || !bytes.Equal(bulwark.Slot(sample), want) {
		t.Errorf("P2: a slot is changed by another one")
	}
}

// spoiled writes into a list and its spare room.
func spoiled[T any](list []T) { clear(list[:cap(list)]) }

// spoilers is, for each list of a configuration, what writes into it, and what tells whether the list is as it was.
func spoilers(c *api.Config) (spoil []func(), same []func(want api.Config) bool) {
	add := func(s func(), q func(want api.Config) bool) { spoil, same = append(spoil, s), append(same, q) }
	windows, channels := c.Windows, c.Channels
	add(func() { spoiled(windows) }, func(want api.Config) bool { return reflect.DeepEqual(windows, want.Windows) })
	add(func() { spoiled(channels) }, func(want api.Config) bool { return reflect.DeepEqual(channels, want.Channels) })
	for i, p := range c.Parts {
		for j, q := range p.Processes {
			code := q.Code
			add(func() { spoiled(code) }, func(want api.Config) bool {
				return reflect.DeepEqual(code, want.Parts[i].Processes[j].Code)
			})
		}
		processes := p.Processes
		add(func() { spoiled(processes) }, func(want api.Config) bool {
			for j, q := range processes {
				if q.Priority != want.Parts[i].Processes[j].Priority || len(q.Code) != len(want.Parts[i].Processes[j].Code) {
					return false
				}
			}
			return true
		})
	}
	return spoil, same
}

func TestP2ListsOfAConfigurationShareNothing(t *testing.T) {
	for _, want := range []api.Config{wantFields(), least(), greatest()} {
		probe, _, _ := bulwark.Parse(written(want))
		many, _ := spoilers(&probe)
		for n := range many {
			c, _, _ := bulwark.Parse(written(want))
			other, _, _ := bulwark.Parse(written(want))
			spoil, same := spoilers(&c)
			spoil[n]()
			for k, is := range same {
				if k != n && !is(want) {
					t.Errorf("P2: list %d is changed by what is written into list %d", k, n)
				}
			}
			if !reflect.DeepEqual(other, want) {
				t.Errorf("P2: an answer is changed by what is written into list %d of another", n)
			}
		}
	}
}

func TestP2AnswersHangOnArgumentsAlone(t *testing.T) {
	config := written(wantFields())
	slot := bulwark.Slot(sample)
	for _, between := range [][]byte{nil, {73}, config[:9], written(greatest()), append(bytes.Clone(config), 1)} {
		bulwark.Parse(between)
		bulwark.Sort(between)
		taken(t, "behind another call", config, wantFields())
		if n, r, e := bulwark.Sort(slot); n != api.Good || r != sample || e != api.OK {
			t.Errorf("P2: Sort behind another call: %d, %+v, %d", n, r, e)
		}
	}
}
