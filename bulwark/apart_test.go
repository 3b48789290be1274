package bulwark_test

import (
	"math/rand/v2"
	"reflect"
	"testing"

	"bulwark/api"
	"bulwark/bulwark"
)

// trace is how a partition is behind each tick. It has some faults of its own; ahead of each tick something else is done.
func trace(t *testing.T, k *bulwark.Kernel, part, processes int, between func()) (views []api.View) {
	t.Helper()
	own := rand.New(rand.NewPCG(9, 9))
	for range 250 {
		if own.IntN(40) == 0 {
			inject(t, k, part, own.IntN(processes), own.IntN(5))
		}
		between()
		run(t, k, 1)
		v, _ := k.Look(part)
		views = append(views, v)
	}
	return views
}

// sendsAlone is a configuration without channels to a partition.
func sendsAlone(c api.Config, part int) api.Config {
	var channels []api.Channel
	for _, h := range c.Channels {
		if h.To == part {
			h.From, h.To = h.To, h.From
		}
		channels = append(channels, h)
	}
	return joined(c, channels...)
}

// amongOthers is a configuration in which all partitions but one are others.
func amongOthers(r *rand.Rand, c api.Config, part int) api.Config {
	parts := make([]api.Partition, len(c.Parts))
	for at := range parts {
		parts[at] = roll(r, false).Parts[0]
	}
	parts[part] = c.Parts[part]
	c.Parts = parts
	return c
}

// startOf is the content of a flash at the start: nothing, or a journal that has come some way.
func startOf(r *rand.Rand) []byte {
	if r.IntN(2) == 0 {
		return nil
	}
	return slots(header(1+r.IntN(9), r.IntN(3), r.IntN(3), r.IntN(3), r.IntN(3)), fault(r.IntN(4), 1, 1+r.IntN(6)), fault(r.IntN(4), 2, 1+r.IntN(6)))
}

// A partition that is not of the system does the same whatever the others are, and however often they fall.
func TestP10OthersChangeNothing(t *testing.T) {
	idle := 0
	for seed := range uint64(400) {
		r := rand.New(rand.NewPCG(seed, 10))
		c := roll(r, false)
		part := r.IntN(len(c.Parts))
		c = sendsAlone(c, part)
		c.Parts[part].System = false
		many := len(c.Parts[part].Processes)
		content := startOf(r)
		alone := trace(t, booted(t, c, api.NewFlash(content)), part, many, func() {})
		k := booted(t, amongOthers(r, c, part), api.NewFlash(content))
		beside := trace(t, k, part, many, func() {
			if other := r.IntN(len(c.Parts)); other != part {
				inject(t, k, other, 0, r.IntN(5))
			}
		})
		if !reflect.DeepEqual(alone, beside) {
			t.Fatalf("P10: seed %d: partition %d of %+v does otherwise beside others", seed, part, c)
		}
		if alone[len(alone)-1].Mode == api.Idle {
			idle++
		}
	}
	if idle < 40 || idle > 360 {
		t.Errorf("P10: %d of 400 became idle: that tells little", idle)
	}
}

// What comes by channels is all that a partition has of another one: the same numbers, from another program, make it do the same.
func TestP10NumbersAreAllThatComes(t *testing.T) {
	receiver := partition(9, "111111", process(5, api.RECV, 0, api.STORE, 0, api.RECV, 0, api.STORE, 1, api.ADD, 1, api.JNZ, 0), process(1, api.ADD, 1, api.JNZ, 0))
	plain := process(0, api.ADD, 5, api.NOP, 0, api.SEND, 0, api.NOP, 0, api.ADD, 4, api.NOP, 0, api.SEND, 0, api.STOP, 0)
	falling := process(0, api.ADD, 5, api.RAISE, 0, api.SEND, 0, api.STORE, 9, api.ADD, 4, api.LOG, 0, api.SEND, 0, api.RAISE, 0)
	channel := api.Channel{From: 0, To: 1, Depth: 1}
	quietly := booted(t, joined(inTurn(partition(9, "111111", plain), receiver), channel))
	loudly := booted(t, joined(inTurn(partition(9, "111111", falling), receiver), channel))
	nothing := func() {}
	if a, b := trace(t, quietly, 1, 2, nothing), trace(t, loudly, 1, 2, nothing); !reflect.DeepEqual(a, b) {
		t.Errorf("P10: the same numbers, but another partition")
	}
	if v, _ := loudly.Look(1); v.Words[0] != 5 || v.Words[1] != 9 || told(loudly) == told(quietly) {
		t.Errorf("P10: %+v (%s), (%s): that tells little", v, told(quietly), told(loudly))
	}
}
