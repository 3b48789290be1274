package bulwark_test

import (
	"bytes"
	"math/rand/v2"
	"testing"

	"bulwark/api"
	"bulwark/bulwark"
)

// header is the slot of a header with these restarts.
func header(generation int, restarts ...int) []byte {
	arg := 0
	for part, many := range restarts {
		arg |= many << (24 - 8*part)
	}
	return bulwark.Slot(api.Record{Kind: api.Header, Seq: generation, Arg: arg})
}

// fault is the slot of a fault.
func fault(part, seq, action int) []byte {
	return bulwark.Slot(api.Record{Kind: api.Fault, Part: part, Code: 3, Seq: seq, Arg: action})
}

// slots is a sector of these slots, and blank ones behind.
func slots(list ...[]byte) []byte {
	sector := bytes.Join(list, nil)
	return append(sector, bytes.Repeat([]byte{255}, api.SectorBytes-len(sector))...)
}

// flashOf is a flash with two sectors.
func flashOf(first, second []byte) *api.Flash {
	return api.NewFlash(append(bytes.Clone(first), second...))
}

// quiet is a configuration of four partitions that do nothing.
func quiet(actions string) api.Config {
	p := partition(9, actions, process(0, api.STOP, 0))
	return inTurn(p, p, p, p)
}

var (
	blankSlot = bytes.Repeat([]byte{255}, api.SlotBytes)
	tornSlot  = turned(fault(0, 90, api.Idly), 0, 255)
	spoilt    = turned(fault(0, 91, api.Idly), 5, 9)
)

func TestP5BootRefusesWhatParseRefuses(t *testing.T) {
	r := rand.New(rand.NewPCG(5, 6))
	whole := [][]byte{written(wantFields()), written(least()), written(greatest())}
	for n := range 9000 {
		config := mangled(r, whole[n%len(whole)])
		_, _, want := bulwark.Parse(config)
		f := flashOf(slots(header(1)), slots(header(2), fault(0, 1, 6)))
		k, e := bulwark.Boot(config, f)
		if e != want || (k == nil) != (want != api.OK) || f.Done() != 0 {
			t.Fatalf("P5: Boot of %v: %v, %d, %d written, want the errno %d", config, k, e, f.Done(), want)
		}
	}
	config := written(least())
	for many := range config {
		if k, e := bulwark.Boot(config[:many], api.NewFlash(nil)); k != nil || e != api.ErrShort {
			t.Errorf("P5: Boot of %d bytes: %v, %d, want ErrShort", many, k, e)
		}
	}
	for _, c := range []struct {
		config []byte
		want   api.Errno
	}{{turned(config, 0, 73), api.ErrValue}, {turned(config, 3, 7), api.ErrCheck}, {append(bytes.Clone(config), 0), api.ErrLong}} {
		if k, e := bulwark.Boot(c.config, api.NewFlash(nil)); k != nil || e != c.want {
			t.Errorf("P5: Boot: %v, %d, want %d", k, e, c.want)
		}
	}
}

func TestP5BootOnAnErasedFlash(t *testing.T) {
	k := booted(t, inTurn(partition(3, "111111", process(0, api.NOP, 0), process(1, api.NOP, 0)), partition(0, "777777", process(0, api.NOP, 0))))
	want(t, "P5: Boot", k, 0, "1 0 [0 0] 0/0 0/0", "")
	want(t, "P5: Boot", k, 1, "1 0 [0 0] 0/0", "")
	if k.Now() != 0 {
		t.Errorf("P5: Boot: the next tick is %d", k.Now())
	}
}

// The modes and restarts of the four partitions, as the flash says them.
func TestP5BootAsTheLogSays(t *testing.T) {
	none := slots()
	full := slots(header(7), fault(0, 1, 6), fault(1, 2, 4), fault(2, 3, 6), fault(2, 4, 1), fault(3, 5, 4), fault(3, 6, 6), fault(9, 7, 6))
	for _, c := range []struct {
		name          string
		first, second []byte
		modes         [4]int
		restarts      [4]int
		log           int
	}{
		{"erased", none, none, [4]int{1, 1, 1, 1}, [4]int{}, 0},
		{"noughts", make([]byte, api.SectorBytes), make([]byte, api.SectorBytes), [4]int{1, 1, 1, 1}, [4]int{}, 0},
		{"a header alone", none, slots(header(1, 1, 2, 3, 255)), [4]int{1, 1, 1, 1}, [4]int{1, 2, 3, 255}, 0},
		{"all actions", full, none, [4]int{3, 2, 1, 3}, [4]int{0, 1, 0, 1}, 7},
		{"cold ones count", slots(header(1, 1, 1), fault(0, 1, 5), fault(0, 2, 5), fault(1, 3, 4), fault(1, 4, 7), fault(2, 5, 3), fault(2, 6, 2)), none, [4]int{1, 1, 1, 1}, [4]int{3, 2, 0, 0}, 6},
		{"no more than 255", slots(header(1, 254, 255, 0, 253), fault(0, 1, 4), fault(0, 2, 4), fault(1, 3, 5), fault(3, 4, 4)), none, [4]int{2, 1, 1, 2}, [4]int{255, 255, 0, 254}, 4},
		{"the last one counts, not the greatest", slots(header(1), fault(0, 9, 6), fault(0, 2, 4)), none, [4]int{2, 1, 1, 1}, [4]int{1}, 2},
		{"an action that is none", slots(header(1), fault(0, 1, 6), fault(0, 2, 6+256), fault(1, 3, 4+1<<24)), none, [4]int{1, 1, 1, 1}, [4]int{}, 3},
		{"slots that are not good", slots(header(1), fault(0, 1, 4), tornSlot, spoilt, blankSlot, fault(1, 2, 6)), none, [4]int{2, 3, 1, 1}, [4]int{1}, 2},
		{"headers and others within", slots(header(1), header(9, 9, 9, 9, 9), bulwark.Slot(api.Record{Kind: 3, Seq: 1, Arg: 6}), bulwark.Slot(api.Record{Seq: 1, Arg: 6})), none, [4]int{1, 1, 1, 1}, [4]int{}, 0},
		{"a fault in the header's place", slots(fault(0, 1, 6), fault(0, 2, 6)), none, [4]int{1, 1, 1, 1}, [4]int{}, 0},
		{"a header that is torn", slots(turned(header(1), 0, 1), fault(0, 2, 6)), none, [4]int{1, 1, 1, 1}, [4]int{}, 0},
		{"a header that is corrupt", slots(turned(header(1), 9, 1), fault(0, 2, 6)), none, [4]int{1, 1, 1, 1}, [4]int{}, 0},
		{"a header with a partition and a code", slots(bulwark.Slot(api.Record{Kind: 2, Part: 3, Code: 9, Seq: 0, Arg: 1 << 16}), fault(0, 2, 6)), none, [4]int{3, 1, 1, 1}, [4]int{0, 1}, 1},
		{"the old one, and then the active one", slots(header(8, 0, 5), fault(0, 8, 4)), full, [4]int{2, 2, 1, 3}, [4]int{1, 5, 0, 0}, 8},
		{"the same, the other way round", full, slots(header(8, 0, 5), fault(0, 8, 4)), [4]int{2, 2, 1, 3}, [4]int{1, 5, 0, 0}, 8},
		{"two less is not old", full, slots(header(9, 0, 5), fault(0, 8, 4)), [4]int{2, 1, 1, 1}, [4]int{1, 5}, 1},
		{"the same generation: sector 0", slots(header(7, 2), fault(1, 1, 6)), full, [4]int{1, 3, 1, 1}, [4]int{2}, 1},
		{"the greater one, not the one that wrapped round", slots(header(1<<32-1, 3), fault(1, 1, 6)), slots(header(0, 4)), [4]int{1, 3, 1, 1}, [4]int{3}, 1},
		{"the greatest generation, and the one ahead", slots(header(1<<32-1, 3), fault(1, 2, 6)), slots(header(1<<32-2, 4), fault(1, 1, 4)), [4]int{1, 3, 1, 1}, [4]int{3}, 2},
		{"the other one is not headed", slots(header(1)), slots(spoilt, fault(1, 2, 6)), [4]int{1, 1, 1, 1}, [4]int{}, 0},
	} {
		f := flashOf(c.first, c.second)
		before := f.Bytes()
		k := booted(t, quiet("111111"), f)
		for part := range 4 {
			v, _ := k.Look(part)
			if v.Mode != c.modes[part] || v.Restarts != c.restarts[part] {
				t.Errorf("P5: Boot, %s: partition %d is %d with %d restarts, want %d with %d", c.name, part, v.Mode, v.Restarts, c.modes[part], c.restarts[part])
			}
		}
		if len(k.Log()) != c.log || f.Done() != 0 || !bytes.Equal(f.Bytes(), before) {
			t.Errorf("P5: Boot, %s: a log of %d, want %d; %d written", c.name, len(k.Log()), c.log, f.Done())
		}
	}
}

func TestP5BootBeginsAnew(t *testing.T) {
	c := joined(inTurn(
		partition(9, "111461", process(0, api.ADD, 5, api.STORE, 1, api.SEND, 0, api.STOP, 0)),
		partition(9, "111111", process(0, api.WAIT, 9, api.RECV, 0, api.STORE, 0))), api.Channel{From: 0, To: 1, Depth: 2})
	f := api.NewFlash(nil)
	first := booted(t, c, f)
	run(t, first, 8)
	want(t, "P5: ahead of the second start", first, 0, "1 0 [0 5] 4/5s", "")
	inject(t, first, 0, 0, 3)
	second := booted(t, c, f)
	want(t, "P5: a second start", second, 0, "2 1 [0 0] 0/0", "034")
	want(t, "P5: a second start", second, 1, "1 0 [0 0] 0/0", "034")
	if second.Now() != 0 || first.Now() != 8 {
		t.Errorf("P5: a second start: the next ticks are %d and %d", first.Now(), second.Now())
	}
	inject(t, second, 0, 0, 4)
	run(t, second, 50)
	want(t, "P5: its channels are empty", second, 1, "1 0 [0 0] 1/0", "034 046")
	run(t, first, 50)
	want(t, "P5: those of the first kernel are not", first, 1, "1 0 [5 0] 3/5s", "034 046")
}

// Nothing is written, so a flash without power is no obstacle until there is a fault.
func TestP5BootWithoutPower(t *testing.T) {
	f := flashOf(slots(header(1), fault(0, 1, 6)), slots())
	f.Cut(0, 0)
	k := booted(t, quiet("111111"), f)
	run(t, k, 9)
	want(t, "P5: without power", k, 0, "3 0 [0 0] 0/0", "036")
	if e := k.Inject(1, 0, 0); e != api.ErrPower {
		t.Errorf("P6: Inject without power: %d", e)
	}
}
