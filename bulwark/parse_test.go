package bulwark_test

import (
	"bytes"
	"math/rand/v2"
	"reflect"
	"slices"
	"testing"

	"bulwark/api"
	"bulwark/bulwark"
)

// field is a byte of a configuration, and what it may be there.
type field struct {
	value, low, high int
	except           []int
}

// may tells whether a field may be v.
func (f field) may(v int) bool {
	return v >= f.low && v <= f.high && !slices.Contains(f.except, v)
}

// fields is a configuration of three partitions, byte by byte.
func fields() []field {
	ins := func(op, arg, high int) []field { return []field{{value: op, high: 13}, {value: arg, high: high}} }
	actions := func(a ...int) (f []field) {
		for code, v := range a {
			f = append(f, field{value: v, low: 1, high: 7})
			if code == 5 {
				f[5].except = []int{2, 3}
			}
		}
		return f
	}
	window := func(part, first, many, ahead int) []field {
		return []field{{value: part, high: 2}, {value: first, low: ahead, high: 19}, {value: many, low: 1, high: 20 - first}}
	}
	channel := func(from, to, depth int) []field {
		return []field{{value: from, high: 2}, {value: to, high: 2, except: []int{from}}, {value: depth, low: 1, high: 4}}
	}
	process := func(priority, many int) []field {
		return []field{{value: priority, high: 9}, {value: many, low: 1, high: 20}}
	}
	partition := func(system, words, limit int) []field {
		return []field{{value: system, high: 1}, {value: words, low: 1, high: 16}, {value: limit, high: 9}}
	}
	return slices.Concat(
		[]field{{value: 72, low: 72, high: 72}, {value: 3, low: 1, high: 4}, {value: 20, low: 1, high: 64}, {value: 200, high: 200}},
		partition(1, 16, 0), actions(1, 2, 3, 4, 5, 6), []field{{value: 2, low: 1, high: 2}},
		process(9, 3), ins(api.ADD, 255, 255), ins(api.JNZ, 2, 2), ins(api.LOG, 0, 255),
		process(0, 1), ins(api.JNZ, 0, 0),
		partition(0, 1, 9), actions(7, 6, 5, 4, 3, 1), []field{{value: 1, low: 1, high: 2}},
		process(4, 2), ins(api.SEND, 1, 255), ins(api.STOP, 128, 255),
		partition(0, 7, 3), actions(2, 2, 2, 2, 2, 7), []field{{value: 1, low: 1, high: 2}},
		process(5, 1), ins(api.NOP, 0, 255),
		[]field{{value: 3, low: 1, high: 8}}, window(2, 0, 5, 0), window(0, 5, 4, 5), window(2, 12, 8, 9),
		[]field{{value: 3, high: 4}}, channel(0, 2, 4), channel(1, 0, 1), channel(2, 1, 2),
	)
}

// values is the bytes of fields.
func values(f []field) []byte {
	var b []byte
	for _, one := range f {
		b = append(b, byte(one.value))
	}
	return b
}

// wantFields is the configuration that fields says.
func wantFields() api.Config {
	return api.Config{
		Frame: 20, Watch: 200,
		Parts: []api.Partition{
			{System: true, Words: 16, Limit: 0, Actions: [6]int{1, 2, 3, 4, 5, 6}, Processes: []api.Process{
				{Priority: 9, Code: []api.Ins{{Op: api.ADD, Arg: 255}, {Op: api.JNZ, Arg: 2}, {Op: api.LOG, Arg: 0}}},
				{Priority: 0, Code: []api.Ins{{Op: api.JNZ, Arg: 0}}},
			}},
			{Words: 1, Limit: 9, Actions: [6]int{7, 6, 5, 4, 3, 1}, Processes: []api.Process{
				{Priority: 4, Code: []api.Ins{{Op: api.SEND, Arg: 1}, {Op: api.STOP, Arg: 128}}},
			}},
			{Words: 7, Limit: 3, Actions: [6]int{2, 2, 2, 2, 2, 7}, Processes: []api.Process{
				{Priority: 5, Code: []api.Ins{{Op: api.NOP, Arg: 0}}},
			}},
		},
		Windows:  []api.Window{{Part: 2, First: 0, Many: 5}, {Part: 0, First: 5, Many: 4}, {Part: 2, First: 12, Many: 8}},
		Channels: []api.Channel{{From: 0, To: 2, Depth: 4}, {From: 1, To: 0, Depth: 1}, {From: 2, To: 1, Depth: 2}},
	}
}

// written is the bytes of a configuration, with its check.
func written(c api.Config) []byte {
	b := []byte{72, byte(len(c.Parts)), byte(c.Frame), byte(c.Watch)}
	for _, p := range c.Parts {
		system := byte(0)
		if p.System {
			system = 1
		}
		b = append(b, system, byte(p.Words), byte(p.Limit))
		for _, a := range p.Actions {
			b = append(b, byte(a))
		}
		b = append(b, byte(len(p.Processes)))
		for _, q := range p.Processes {
			b = append(b, byte(q.Priority), byte(len(q.Code)))
			for _, i := range q.Code {
				b = append(b, byte(i.Op), byte(i.Arg))
			}
		}
	}
	b = append(b, byte(len(c.Windows)))
	for _, w := range c.Windows {
		b = append(b, byte(w.Part), byte(w.First), byte(w.Many))
	}
	b = append(b, byte(len(c.Channels)))
	for _, h := range c.Channels {
		b = append(b, byte(h.From), byte(h.To), byte(h.Depth))
	}
	return sealed(b)
}

// least is a configuration with as little of all as there may be.
func least() api.Config {
	return api.Config{
		Frame: 1,
		Parts: []api.Partition{{Words: 1, Actions: [6]int{1, 1, 1, 1, 1, 1}, Processes: []api.Process{
			{Code: []api.Ins{{}}},
		}}},
		Windows: []api.Window{{Many: 1}},
	}
}

// greatest is a configuration with as much of all as there may be.
func greatest() api.Config {
	c := api.Config{Frame: api.MaxFrame, Watch: api.MaxWatch}
	for part := range api.MaxPartitions {
		p := api.Partition{System: true, Words: api.MaxWords, Limit: api.MaxLimit, Actions: [6]int{7, 7, 7, 7, 7, 7}}
		for range api.MaxProcesses {
			q := api.Process{Priority: api.MaxPriority}
			for i := range api.MaxCode {
				q.Code = append(q.Code, api.Ins{Op: []int{api.JNZ, api.LOG}[i%2], Arg: []int{api.MaxCode - 1, 255}[i%2]})
			}
			p.Processes = append(p.Processes, q)
		}
		c.Parts = append(c.Parts, p)
		c.Channels = append(c.Channels, api.Channel{From: part, To: api.MaxPartitions - 1 - part, Depth: api.MaxDepth})
	}
	for n := range api.MaxWindows {
		c.Windows = append(c.Windows, api.Window{Part: n % api.MaxPartitions, First: n * 8, Many: 8})
	}
	return c
}

// refused asks that a configuration is refused, for this and there, and that nothing else is told.
func refused(t *testing.T, name string, config []byte, at int, e api.Errno) {
	t.Helper()
	c, place, errno := bulwark.Parse(config)
	if place != at || errno != e || !reflect.DeepEqual(c, api.Config{}) {
		t.Errorf("P4: Parse, %s: %+v, %d, %d, want nothing, %d, %d", name, c, place, errno, at, e)
	}
}

// taken asks that a configuration is taken, as it is.
func taken(t *testing.T, name string, config []byte, want api.Config) {
	t.Helper()
	if c, at, e := bulwark.Parse(config); !reflect.DeepEqual(c, want) || at != 0 || e != api.OK {
		t.Errorf("P4: Parse, %s: %+v, %d, %d, want %+v, 0, 0", name, c, at, e, want)
	}
}

func TestP4ParseTakesWhatIsRight(t *testing.T) {
	taken(t, "three partitions", sealed(values(fields())), wantFields())
	taken(t, "the least", written(least()), least())
	taken(t, "the greatest", written(greatest()), greatest())
}

// Every byte is tried at every place: what may not be is told there, what may be is not told there or ahead.
func TestP4ParseRefusesEveryByteThatMayNotBe(t *testing.T) {
	all := fields()
	b := values(all)
	for at, f := range all {
		for v := range 256 {
			config := sealed(turned(b, at, byte(v)))
			if !f.may(v) {
				refused(t, "a byte", config, at, api.ErrValue)
				refused(t, "a byte, and nothing behind", config[:at+1], at, api.ErrValue)
			} else if _, place, e := bulwark.Parse(config); e != api.OK && place <= at {
				t.Errorf("P4: Parse, byte %d is %d: %d at %d, but it may be", at, v, e, place)
			}
		}
	}
}

func TestP4ParseRefusesWhatEndsTooEarly(t *testing.T) {
	for _, config := range [][]byte{sealed(values(fields())), written(least()), written(greatest())} {
		for many := range config {
			refused(t, "a piece", config[:many], many, api.ErrShort)
		}
		behind := len(config) - 4
		refused(t, "a piece of another check", append(bytes.Clone(config[:behind]), ^config[behind]), behind+1, api.ErrShort)
	}
}

func TestP4ParseRefusesAnotherCheck(t *testing.T) {
	config := sealed(values(fields()))
	place := len(config) - 4
	for at := place; at < len(config); at++ {
		for bit := range 8 {
			other := turned(config, at, config[at]^1<<bit)
			refused(t, "another check", other, place, api.ErrCheck)
			refused(t, "another check, and more behind", append(other, 0), place, api.ErrCheck)
		}
	}
	refused(t, "the check of another watch", turned(config, 3, 199), place, api.ErrCheck)
}

func TestP4ParseRefusesWhatGoesOn(t *testing.T) {
	config := sealed(values(fields()))
	for v := range 256 {
		refused(t, "one byte more", append(bytes.Clone(config), byte(v)), len(config), api.ErrLong)
	}
	refused(t, "twice", append(bytes.Clone(config), config...), len(config), api.ErrLong)
}

// The edges of windows and channels that a change of a single byte does not reach.
func TestP4ParseOfWindowsAndChannelsWithNoRoom(t *testing.T) {
	full := least()
	full.Windows = append(full.Windows, api.Window{Many: 1})
	for first := range 256 {
		full.Windows[1].First = first
		config := written(full)
		refused(t, "a window behind the frame's end", config, len(config)-7, api.ErrValue)
	}
	alone := least()
	alone.Channels = []api.Channel{{Depth: 1}}
	for to := range 256 {
		alone.Channels[0].To = to
		config := written(alone)
		refused(t, "a channel of one partition", config, len(config)-6, api.ErrValue)
	}
	frame := least()
	frame.Frame = api.MaxFrame
	frame.Windows = []api.Window{{First: 62, Many: 1}, {First: 63, Many: 1}}
	taken(t, "windows at the frame's end", written(frame), frame)
	frame.Windows = []api.Window{{First: 0, Many: 64}}
	taken(t, "a window as long as the frame", written(frame), frame)
	frame.Windows = []api.Window{{First: 1, Many: 255}}
	refused(t, "a window whose end would wrap round", written(frame), len(written(frame))-6, api.ErrValue)
}

func TestP4ParseTellsTheNearestFault(t *testing.T) {
	b := values(fields())
	refused(t, "nothing", nil, 0, api.ErrShort)
	refused(t, "another mark alone", []byte{73}, 0, api.ErrValue)
	refused(t, "no partition", []byte{72, 0}, 1, api.ErrValue)
	refused(t, "two bytes and the check", turned(turned(b, 6, 10), 2, 0), 2, api.ErrValue)
	refused(t, "a byte, and more behind", append(sealed(turned(b, 5, 0)), 0), 5, api.ErrValue)
}

// mangled is a configuration with a few bytes changed, left out or put in.
func mangled(r *rand.Rand, config []byte) []byte {
	b := bytes.Clone(config)
	for range r.IntN(3) {
		at := r.IntN(len(b))
		switch r.IntN(3) {
		case 0:
			b[at] = byte(r.IntN(24))
		case 1:
			b = slices.Delete(b, at, at+1)
		case 2:
			b = slices.Insert(b, at, byte(r.IntN(24)))
		}
	}
	if r.IntN(2) == 0 {
		b = sealed(b[:len(b)-4])
	}
	return b[:len(b)-r.IntN(2)*r.IntN(4)]
}

// What is told of a whole configuration must be told of its pieces too, and what is taken must say its own bytes.
func TestP4ParseOfMangledConfigurations(t *testing.T) {
	r := rand.New(rand.NewPCG(1, 2))
	whole := [][]byte{written(wantFields()), written(least()), written(greatest())}
	for n := range 60000 {
		config := mangled(r, whole[n%len(whole)])
		c, at, e := bulwark.Parse(config)
		switch e {
		case api.OK:
			if !bytes.Equal(written(c), config) || at != 0 {
				t.Fatalf("P4: Parse of %v: %+v at %d, which is not what it says", config, c, at)
			}
		case api.ErrShort:
			refused(t, "a short one", config, len(config), api.ErrShort)
		case api.ErrValue:
			refused(t, "up to its byte", config[:at+1], at, api.ErrValue)
			refused(t, "ahead of its byte", config[:at], at, api.ErrShort)
		case api.ErrCheck:
			refused(t, "up to its check", config[:at+4], at, api.ErrCheck)
			refused(t, "ahead of its check", config[:at], at, api.ErrShort)
		case api.ErrLong:
			if _, _, e := bulwark.Parse(config[:at]); e != api.OK {
				t.Fatalf("P4: Parse of %v: ErrLong at %d, but ahead of it: %d", config, at, e)
			}
		default:
			t.Fatalf("P4: Parse of %v: %d", config, e)
		}
	}
}
