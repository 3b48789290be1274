package bulwark_test

import (
	"bytes"
	"math"
	"math/rand/v2"
	"reflect"
	"testing"

	"bulwark/api"
	"bulwark/bulwark"
)

// lively is a configuration in which words, processes, channels and faults are all in use.
func lively() api.Config {
	return watched(40, joined(inTurn(
		ofSystem(partition(9, "111411", process(3, api.ADD, 1, api.STORE, 0, api.SEND, 0, api.LOG, 1, api.STORE, 1, api.JNZ, 0, api.RAISE, 0), process(9, api.WAIT, 30, api.ADD, 1, api.JNZ, 0))),
		partition(3, "111511", process(2, api.RECV, 0, api.STORE, 1, api.DIV, 0, api.RAISE, 0))),
		api.Channel{From: 0, To: 1, Depth: 3}))
}

// Every call is asked, on flashes with anything in them, with and without power.
func TestP1NoCallOfAKernelPanics(t *testing.T) {
	numbers := []int{math.MinInt, -1 << 32, -256, -1, 0, 1, 2, 3, 4, 5, 255, 256, 1000, 1001, 1 << 32, math.MaxInt}
	r := rand.New(rand.NewPCG(11, 12))
	for n := range 300 {
		content := make([]byte, r.IntN(300))
		for at := range content {
			content[at] = byte(r.IntN(256))
		}
		for at := range content {
			if n%3 == 1 || at < 16*r.IntN(16) {
				content[at] = []byte{0, 255}[n/3%2]
			}
		}
		f := api.NewFlash(content)
		if n%5 == 0 {
			f = &api.Flash{}
		}
		k := booted(t, []api.Config{lively(), greatest(), least(), roll(r, true)}[n%4], f)
		for _, a := range numbers {
			k.Tick(a)
			k.Look(a)
			for _, b := range []int{-1, 0, 1, 2} {
				k.Inject(a, b, r.IntN(6))
			}
			k.Log()
			k.Now()
		}
	}
}

func TestP2BootKeepsNothingHandedIn(t *testing.T) {
	list, whole := roomy(written(lively()))
	before := bytes.Clone(whole)
	k, _ := bulwark.Boot(list, api.NewFlash(nil))
	other := booted(t, lively())
	run(t, k, 50)
	if !bytes.Equal(whole, before) {
		t.Errorf("P2: Boot or Tick has written into the configuration")
	}
	clear(whole)
	run(t, k, 150)
	run(t, other, 200)
	a, logA, _ := all(k, 2)
	b, logB, _ := all(other, 2)
	if !reflect.DeepEqual(a, b) || !reflect.DeepEqual(logA, logB) || len(logA) == 0 {
		t.Errorf("P2: a kernel is changed by its configuration: %+v, want %+v", a, b)
	}
}

func TestP2ViewsAndLogsAreNewMemory(t *testing.T) {
	k := booted(t, lively())
	run(t, k, 100)
	views, log, _ := all(k, 2)
	kept, keptLog, _ := all(k, 2)
	for part := range views {
		v, _ := k.Look(part)
		spoiled(v.Words)
		if !reflect.DeepEqual(v.Processes, views[part].Processes) {
			t.Errorf("P2: the processes of a view are changed by its words")
		}
		spoiled(v.Processes)
	}
	spoiled(k.Log())
	if now, logNow, _ := all(k, 2); !reflect.DeepEqual(now, views) || !reflect.DeepEqual(logNow, log) || len(log) == 0 {
		t.Errorf("P2: a kernel is changed by what is written into its answers: %+v, want %+v", now, views)
	}
	run(t, k, 100)
	if !reflect.DeepEqual(views, kept) || !reflect.DeepEqual(log, keptLog) {
		t.Errorf("P2: answers are changed by a kernel that goes on")
	}
}

// Kernels on flashes of their own do the same side by side as one behind the other.
func TestP2KernelsHaveNothingToDoWithEachOther(t *testing.T) {
	alone := booted(t, lively())
	run(t, alone, 200)
	wantViews, wantLog, _ := all(alone, 2)
	one, two, other := booted(t, lively()), booted(t, lively()), booted(t, quiet("777777"))
	for range 200 {
		run(t, one, 1)
		inject(t, other, 0, 0, 1)
		other.Tick(1001)
		run(t, two, 1)
	}
	for _, k := range []*bulwark.Kernel{one, two} {
		if views, log, now := all(k, 2); !reflect.DeepEqual(views, wantViews) || !reflect.DeepEqual(log, wantLog) || now != 200 {
			t.Errorf("P2: beside others a kernel is %+v, want %+v", views, wantViews)
		}
	}
}

// Calls that only ask, or are refused, change nothing, however often.
func TestP2AskingChangesNothing(t *testing.T) {
	asked, left := booted(t, lively()), booted(t, lively())
	for range 200 {
		for part := -1; part < 3; part++ {
			asked.Look(part)
			asked.Inject(part, -1, 0)
		}
		asked.Log()
		asked.Tick(-1)
		asked.Tick(0)
		run(t, asked, 1)
	}
	run(t, left, 200)
	a, logA, _ := all(asked, 2)
	b, logB, _ := all(left, 2)
	if !reflect.DeepEqual(a, b) || !reflect.DeepEqual(logA, logB) {
		t.Errorf("P2: a kernel that was asked is %+v, want %+v", a, b)
	}
}
