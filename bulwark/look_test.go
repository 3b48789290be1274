package bulwark_test

import (
	"reflect"
	"testing"

	"bulwark/api"
)

func TestP7Now(t *testing.T) {
	k := booted(t, quiet("111111"))
	sum := 0
	for _, n := range []int{0, 1, 7, 1000, 0, 999} {
		run(t, k, n)
		sum += n
		if k.Now() != sum {
			t.Errorf("P7: Now: %d, want %d", k.Now(), sum)
		}
	}
}

func TestP7LookRefuses(t *testing.T) {
	for parts := 1; parts <= api.MaxPartitions; parts++ {
		c := quiet("111111")
		c.Parts, c.Windows = c.Parts[:parts], c.Windows[:parts]
		k := booted(t, c)
		for _, part := range []int{-1 << 63, -1 << 32, -1, parts, parts + 1, 255, 256, 1 << 32, 1<<63 - 1} {
			if v, e := k.Look(part); e != api.ErrArg || !reflect.DeepEqual(v, api.View{}) {
				t.Errorf("P7: Look(%d) of %d: %+v, %d, want ErrArg", part, parts, v, e)
			}
		}
		for part := range parts {
			if _, e := k.Look(part); e != api.OK {
				t.Errorf("P7: Look(%d) of %d: %d", part, parts, e)
			}
		}
	}
}

func TestP7Look(t *testing.T) {
	p := partition(9, "111411", process(5, api.ADD, 200, api.STORE, 15, api.STOP, 0), process(0, api.ADD, 1, api.NOP, 0))
	p.Words = 16
	k := booted(t, inTurn(p))
	run(t, k, 4)
	v, e := k.Look(0)
	want := api.View{Mode: api.Cold, Words: make([]int, 16), Processes: []api.State{{Next: 3, Acc: -56, Stopped: true}, {Next: 1, Acc: 1}}}
	want.Words[15] = -56
	if e != api.OK || !reflect.DeepEqual(v, want) {
		t.Errorf("P7: Look: %+v, %d, want %+v", v, e, want)
	}
	inject(t, k, 0, 1, 3)
	want.Mode, want.Restarts, want.Processes = api.Warm, 1, make([]api.State, 2)
	if v, _ := k.Look(0); !reflect.DeepEqual(v, want) {
		t.Errorf("P7: Look behind a restart: %+v, want %+v", v, want)
	}
}

// The log and the restarts are those of the flash now, whoever wrote them.
func TestP7AsItIsInTheFlashNow(t *testing.T) {
	f := api.NewFlash(nil)
	c := quiet("441111")
	one, other := booted(t, c, f), booted(t, c, f)
	inject(t, one, 2, 0, 1)
	inject(t, other, 2, 0, 0)
	inject(t, one, 3, 0, 2)
	for _, k := range []interface{ Log() []api.Record }{one, other} {
		if log := k.Log(); !reflect.DeepEqual(log, []api.Record{{Kind: 1, Part: 2, Code: 1, Seq: 1, Arg: 4}, {Kind: 1, Part: 2, Code: 0, Seq: 2, Arg: 4}, {Kind: 1, Part: 3, Code: 2, Seq: 3, Arg: 1}}) {
			t.Errorf("P7: Log: %+v", log)
		}
	}
	want(t, "P7: the restarts of both", one, 2, "2 2 [0 0] 0/0", "214 204 321")
	want(t, "P7: the modes are the kernels' own", other, 3, "1 0 [0 0] 0/0", "214 204 321")
	f.Erase(0)
	want(t, "P7: an erased flash", one, 2, "2 0 [0 0] 0/0", "")
}
