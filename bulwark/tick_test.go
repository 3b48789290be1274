package bulwark_test

import (
	"testing"

	"bulwark/api"
)

// One process of one partition of two words, in which every fault is ignored.
func TestP6Instructions(t *testing.T) {
	for _, c := range []struct {
		name  string
		code  []int
		ticks int
		view  string
		log   string
	}{
		{"NOP", []int{api.NOP, 255, api.NOP, 0}, 1, "1 0 [0 0] 1/0", ""},
		{"the last instruction", []int{api.NOP, 0}, 1, "1 0 [0 0] 1/0s", ""},
		{"behind the last instruction", []int{api.NOP, 0}, 9, "1 0 [0 0] 1/0s", ""},
		{"ADD", []int{api.ADD, 127, api.ADD, 1, api.NOP, 0}, 2, "1 0 [0 0] 2/128", ""},
		{"ADD of less than nothing", []int{api.ADD, 128, api.ADD, 255, api.NOP, 0}, 2, "1 0 [0 0] 2/-129", ""},
		{"STORE", []int{api.ADD, 3, api.STORE, 0, api.ADD, 4, api.STORE, 1, api.NOP, 0}, 4, "1 0 [3 7] 4/7", ""},
		{"STORE beside the words", []int{api.ADD, 3, api.STORE, 2, api.STORE, 255, api.NOP, 0}, 3, "1 0 [0 0] 3/3", "001 001"},
		{"LOAD", []int{api.ADD, 3, api.STORE, 1, api.ADD, 9, api.LOAD, 1, api.NOP, 0}, 4, "1 0 [0 3] 4/3", ""},
		{"LOAD beside the words", []int{api.ADD, 3, api.LOAD, 2, api.NOP, 0}, 2, "1 0 [0 0] 2/3", "001"},
		{"JNZ of 0", []int{api.JNZ, 0, api.NOP, 0}, 1, "1 0 [0 0] 1/0", ""},
		{"JNZ", []int{api.ADD, 255, api.JNZ, 3, api.RAISE, 0, api.NOP, 0}, 2, "1 0 [0 0] 3/-1", ""},
		{"JNZ as the last one", []int{api.ADD, 1, api.JNZ, 0}, 4, "1 0 [0 0] 0/2", ""},
		{"JNZ of 0 as the last one", []int{api.NOP, 0, api.JNZ, 0}, 2, "1 0 [0 0] 2/0s", ""},
		{"JNZ to itself", []int{api.ADD, 1, api.JNZ, 1}, 999, "1 0 [0 0] 1/1", ""},
		{"WAIT", []int{api.WAIT, 3, api.ADD, 1, api.NOP, 0}, 3, "1 0 [0 0] 1/0", ""},
		{"WAIT is over", []int{api.WAIT, 3, api.ADD, 1, api.NOP, 0}, 4, "1 0 [0 0] 2/1", ""},
		{"WAIT of 0 and of 1", []int{api.WAIT, 0, api.WAIT, 1, api.ADD, 1, api.NOP, 0}, 3, "1 0 [0 0] 3/1", ""},
		{"WAIT of 255", []int{api.WAIT, 255, api.ADD, 1, api.NOP, 0}, 255, "1 0 [0 0] 1/0", ""},
		{"WAIT of 255 is over", []int{api.WAIT, 255, api.ADD, 1, api.NOP, 0}, 256, "1 0 [0 0] 2/1", ""},
		{"SEND and RECV of no channel", []int{api.ADD, 1, api.SEND, 0, api.RECV, 0, api.NOP, 0}, 3, "1 0 [0 0] 3/1", "041 041"},
		{"RAISE", []int{api.ADD, 1, api.RAISE, 7, api.NOP, 0}, 2, "1 0 [0 0] 2/1", "031"},
		{"RAISE as the last one", []int{api.RAISE, 0}, 2, "1 0 [0 0] 1/0s", "031"},
		{"PET without a watch", []int{api.PET, 0, api.NOP, 0}, 1, "1 0 [0 0] 1/0", ""},
		{"STOP", []int{api.ADD, 1, api.STOP, 0, api.ADD, 1}, 9, "1 0 [0 0] 2/1s", ""},
		{"DIV", []int{api.ADD, 3, api.STORE, 0, api.ADD, 4, api.DIV, 0, api.NOP, 0}, 4, "1 0 [3 0] 4/2", ""},
		{"DIV towards 0", []int{api.ADD, 3, api.STORE, 0, api.ADD, 246, api.DIV, 0, api.NOP, 0}, 4, "1 0 [3 0] 4/-2", ""},
		{"DIV by less than nothing", []int{api.ADD, 253, api.STORE, 1, api.ADD, 11, api.DIV, 1, api.NOP, 0}, 4, "1 0 [0 -3] 4/-2", ""},
		{"DIV of 0", []int{api.ADD, 253, api.STORE, 1, api.ADD, 3, api.DIV, 1, api.NOP, 0}, 4, "1 0 [0 -3] 4/0", ""},
		{"DIV by 0", []int{api.ADD, 3, api.DIV, 1, api.NOP, 0}, 2, "1 0 [0 0] 2/3", "011"},
		{"DIV beside the words", []int{api.ADD, 3, api.DIV, 2, api.NOP, 0}, 2, "1 0 [0 0] 2/3", "001"},
		{"LOG, not of the system", []int{api.ADD, 3, api.LOG, 0, api.NOP, 0}, 2, "1 0 [0 0] 2/3", "041"},
		{"DEADLINE", []int{api.DEADLINE, 3, api.NOP, 0, api.NOP, 0, api.NOP, 0, api.NOP, 0}, 3, "1 0 [0 0] 3/0", ""},
		{"DEADLINE is missed", []int{api.DEADLINE, 3, api.NOP, 0, api.NOP, 0, api.NOP, 0, api.NOP, 0}, 4, "1 0 [0 0] 4/0", "021"},
		{"DEADLINE is missed once", []int{api.DEADLINE, 1, api.WAIT, 200}, 99, "1 0 [0 0] 2/0s", "021"},
		{"DEADLINE is missed once, by one that sleeps", []int{api.DEADLINE, 1, api.WAIT, 200, api.NOP, 0}, 99, "1 0 [0 0] 2/0", "021"},
		{"DEADLINE of 0", []int{api.DEADLINE, 2, api.DEADLINE, 0, api.WAIT, 200, api.NOP, 0}, 99, "1 0 [0 0] 3/0", ""},
		{"DEADLINE is put off", []int{api.DEADLINE, 2, api.DEADLINE, 5, api.NOP, 0, api.WAIT, 200, api.NOP, 0}, 6, "1 0 [0 0] 4/0", ""},
		{"DEADLINE was put off", []int{api.DEADLINE, 2, api.DEADLINE, 5, api.NOP, 0, api.WAIT, 200, api.NOP, 0}, 7, "1 0 [0 0] 4/0", "021"},
		{"DEADLINE of one that is stopped", []int{api.DEADLINE, 2, api.STOP, 0, api.NOP, 0}, 99, "1 0 [0 0] 2/0s", ""},
		{"DEADLINE of 255", []int{api.DEADLINE, 255, api.WAIT, 255, api.NOP, 0}, 256, "1 0 [0 0] 2/0", "021"},
	} {
		k := booted(t, inTurn(partition(9, "111111", process(0, c.code...))))
		run(t, k, c.ticks)
		want(t, "P6: "+c.name, k, 0, c.view, c.log)
	}
}

func TestP6WindowsOfAFrame(t *testing.T) {
	busy := func() api.Partition { return partition(9, "111111", process(0, api.ADD, 1, api.JNZ, 0)) }
	c := inTurn(busy(), busy(), busy())
	c.Frame = 10
	c.Windows = []api.Window{{Part: 2, First: 1, Many: 3}, {Part: 0, First: 4, Many: 1}, {Part: 2, First: 8, Many: 2}}
	k := booted(t, c)
	for tick := range 25 {
		counts := [3]int{}
		for end := range tick {
			switch end % 10 {
			case 1, 2, 3, 8, 9:
				counts[2]++
			case 4:
				counts[0]++
			}
		}
		for part, many := range counts {
			v, _ := k.Look(part)
			if s := v.Processes[0]; s.Next != many%2 || s.Acc != (many+1)/2 {
				t.Errorf("P6: ahead of tick %d: partition %d is at %d/%d, want %d instructions done", tick, part, s.Next, s.Acc, many)
			}
		}
		run(t, k, 1)
	}
}

func TestP6TheReadyProcessWithTheGreatestPriority(t *testing.T) {
	count := []int{api.ADD, 1, api.ADD, 1, api.ADD, 1, api.STOP, 0}
	for _, c := range []struct {
		name   string
		first  api.Process
		second api.Process
		ticks  int
		view   string
	}{
		{"the greater", process(3, count...), process(4, count...), 3, "1 0 [0 0] 0/0 3/3"},
		{"the greater", process(4, count...), process(3, count...), 3, "1 0 [0 0] 3/3 0/0"},
		{"the first of two", process(4, count...), process(4, count...), 3, "1 0 [0 0] 3/3 0/0"},
		{"the other, when that is stopped", process(3, count...), process(4, count...), 5, "1 0 [0 0] 1/1 4/3s"},
		{"the other, while that sleeps", process(3, count...), process(4, api.WAIT, 3, api.ADD, 1, api.NOP, 0), 3, "1 0 [0 0] 2/2 1/0"},
		{"again, when it wakes", process(3, count...), process(4, api.WAIT, 3, api.ADD, 1, api.NOP, 0), 4, "1 0 [0 0] 2/2 2/1"},
		{"none", process(3, api.WAIT, 9, api.NOP, 0), process(4, api.STOP, 0), 9, "1 0 [0 0] 1/0 1/0s"},
	} {
		k := booted(t, inTurn(partition(9, "111111", c.first, c.second)))
		run(t, k, c.ticks)
		want(t, "P6: "+c.name, k, 0, c.view, "")
	}
}

func TestP6Channels(t *testing.T) {
	sender := func(depth int) []int {
		pairs := []int{}
		for range depth + 2 {
			pairs = append(pairs, api.ADD, 1, api.SEND, 0)
		}
		return append(pairs, api.STOP, 0)
	}
	for depth := 1; depth <= api.MaxDepth; depth++ {
		c := joined(inTurn(
			partition(9, "111111", process(0, sender(depth)...)),
			partition(9, "111111", process(0, api.WAIT, 60, api.RECV, 0, api.ADD, 0, api.ADD, 0, api.JNZ, 1))), api.Channel{From: 0, To: 1, Depth: depth})
		k := booted(t, c)
		run(t, k, 60)
		for number := 1; number <= depth; number++ {
			run(t, k, 8)
			v, _ := k.Look(1)
			if v.Processes[0].Acc != number {
				t.Errorf("P6: depth %d: number %d is %d", depth, number, v.Processes[0].Acc)
			}
		}
		run(t, k, 60)
		if v, _ := k.Look(1); v.Processes[0] != (api.State{Next: 1, Acc: depth}) || told(k) != "" {
			t.Errorf("P6: depth %d: behind its numbers: %+v (%s)", depth, v.Processes[0], told(k))
		}
	}
}

// A process that waits for a number lets the other one run, and takes nothing from its channel until it is its turn.
func TestP6ReceivingIsTheTurnOfOne(t *testing.T) {
	c := joined(inTurn(
		partition(9, "111111", process(0, api.WAIT, 6, api.ADD, 7, api.SEND, 0, api.ADD, 1, api.SEND, 0, api.STOP, 0)),
		partition(9, "111111",
			process(2, api.RECV, 0, api.WAIT, 20, api.NOP, 0),
			process(9, api.RECV, 0, api.WAIT, 20, api.NOP, 0))), api.Channel{From: 0, To: 1, Depth: 1})
	k := booted(t, c)
	run(t, k, 8)
	want(t, "P6: both wait", k, 1, "1 0 [0 0] 0/0 0/0", "")
	run(t, k, 2)
	want(t, "P6: the greater one receives", k, 1, "1 0 [0 0] 0/0 1/7", "")
	run(t, k, 2)
	want(t, "P6: it goes on", k, 1, "1 0 [0 0] 0/0 2/7", "")
	run(t, k, 2)
	want(t, "P6: the other one receives", k, 1, "1 0 [0 0] 1/8 2/7", "")
}

// A number that waits stays in its channel, and takes up room there, while another process is chosen.
func TestP6WhatWaitsTakesUpRoom(t *testing.T) {
	c := joined(inTurn(
		partition(9, "111111", process(0, api.ADD, 1, api.SEND, 0, api.ADD, 1, api.SEND, 0, api.STOP, 0)),
		partition(9, "111111",
			process(2, api.RECV, 0, api.ADD, 0, api.RECV, 0, api.STOP, 0),
			process(9, api.ADD, 1, api.ADD, 1, api.ADD, 1, api.ADD, 1, api.ADD, 1, api.STOP, 0))), api.Channel{From: 0, To: 1, Depth: 1})
	k := booted(t, c)
	run(t, k, 60)
	want(t, "P6: the second number found no room", k, 1, "1 0 [0 0] 2/1 6/5s", "")
}

func TestP6ChannelsOfOthers(t *testing.T) {
	channels := []api.Channel{{From: 0, To: 1, Depth: 1}, {From: 1, To: 0, Depth: 1}, {From: 1, To: 2, Depth: 1}}
	idle := partition(9, "111111", process(0, api.STOP, 0))
	for _, c := range []struct {
		op, channel int
		log         string
	}{
		{api.SEND, 0, ""}, {api.SEND, 1, "041"}, {api.SEND, 2, "041"}, {api.SEND, 3, "041"}, {api.SEND, 255, "041"},
		{api.RECV, 0, "041"}, {api.RECV, 2, "041"}, {api.RECV, 3, "041"}, {api.RECV, 255, "041"},
	} {
		k := booted(t, joined(inTurn(partition(9, "111111", process(0, c.op, c.channel, api.NOP, 0)), idle, idle), channels...))
		run(t, k, 1)
		want(t, "P6: a channel", k, 0, "1 0 [0 0] 1/0", c.log)
	}
	k := booted(t, joined(inTurn(partition(9, "111111", process(0, api.RECV, 1, api.NOP, 0)), idle, idle), channels...))
	run(t, k, 9)
	want(t, "P6: nothing waits", k, 0, "1 0 [0 0] 0/0", "")
}

// What waits in channels outlives the restarts of both ends.
func TestP6ChannelsOutliveRestarts(t *testing.T) {
	c := joined(inTurn(
		partition(9, "555555", process(0, api.ADD, 7, api.SEND, 0, api.WAIT, 200, api.NOP, 0)),
		partition(9, "444444", process(0, api.WAIT, 8, api.RECV, 0, api.STOP, 0))), api.Channel{From: 0, To: 1, Depth: 1})
	k := booted(t, c)
	run(t, k, 6)
	inject(t, k, 0, 0, 0)
	inject(t, k, 1, 0, 0)
	run(t, k, 10)
	want(t, "P6: a channel behind restarts", k, 1, "2 1 [0 0] 2/7", "005 104")
}

func TestP6LogOfTheSystem(t *testing.T) {
	f := flashOf(slots(header(3), fault(0, 1, 1), fault(1, 2, 1), fault(200, 3, 1)), slots(header(2), fault(1, 9, 1)))
	p := partition(9, "111111", process(0, api.LOG, 0, api.STORE, 0, api.LOG, 1, api.STORE, 1, api.LOG, 200, api.RAISE, 0, api.LOG, 0, api.LOG, 3, api.STOP, 0))
	k := booted(t, inTurn(ofSystem(p)), f)
	run(t, k, 5)
	want(t, "P6: LOG", k, 0, "1 0 [1 2] 5/1", "131 031 131 20031")
	run(t, k, 2)
	want(t, "P6: LOG behind a fault", k, 0, "1 0 [1 2] 7/2", "131 031 131 20031 031")
	run(t, k, 1)
	want(t, "P6: LOG of a partition without faults", k, 0, "1 0 [1 2] 8/0", "131 031 131 20031 031")
}

func TestP6Watch(t *testing.T) {
	busy := process(0, api.ADD, 1, api.JNZ, 0)
	quiet := partition(9, "111111", busy)
	for watch := range 12 {
		k := booted(t, watched(watch, inTurn(quiet)))
		many := 0
		for tick := range 40 {
			run(t, k, 1)
			if watch > 0 && tick > 0 && tick%watch == 0 {
				many++
			}
			if log := k.Log(); len(log) != min(many, 7+(many+6)%7+1) {
				t.Fatalf("P6: a watch of %d: behind tick %d there are %d faults, want %d", watch, tick, len(log), many)
			}
		}
	}
	k := booted(t, watched(4, inTurn(partition(9, "111116", process(0, api.WAIT, 3, api.PET, 0, api.WAIT, 200, api.NOP, 0)))))
	run(t, k, 7)
	want(t, "P6: PET at tick 3", k, 0, "1 0 [0 0] 3/0", "")
	run(t, k, 1)
	want(t, "P6: the watch of PET is over", k, 0, "3 0 [0 0] 3/0", "056")
	run(t, k, 99)
	want(t, "P6: none of a partition that is idle", k, 0, "3 0 [0 0] 3/0", "056")
}

// A restart lets the watch begin anew; the other actions of a process do not.
func TestP6WatchBehindRestarts(t *testing.T) {
	for _, c := range []struct {
		action byte
		again  bool
	}{{'1', false}, {'2', false}, {'3', false}, {'4', true}, {'5', true}, {'7', true}} {
		actions := "111" + string(c.action) + "11"
		k := booted(t, watched(10, inTurn(partition(9, actions, process(0, api.WAIT, 200, api.NOP, 0)))))
		run(t, k, 6)
		inject(t, k, 0, 0, 3)
		first := "03" + string(c.action)
		run(t, k, 4)
		if told(k) != first {
			t.Errorf("P6: action %c: behind tick 9: (%s)", c.action, told(k))
		}
		run(t, k, 1)
		if over := told(k) != first; over == c.again {
			t.Errorf("P6: action %c: behind tick 10: (%s)", c.action, told(k))
		}
		run(t, k, 5)
		if over := told(k) != first; over == c.again {
			t.Errorf("P6: action %c: behind tick 15: (%s)", c.action, told(k))
		}
		run(t, k, 1)
		if told(k) != first+" 051" {
			t.Errorf("P6: action %c: behind tick 16: (%s)", c.action, told(k))
		}
	}
}

// Deadlines come ahead of watches, watches ahead of the window; each by rising partitions.
func TestP6TheOrderOfATick(t *testing.T) {
	p := partition(9, "111111",
		process(9, api.DEADLINE, 7, api.NOP, 0, api.WAIT, 4, api.RAISE, 0, api.STOP, 0),
		process(1, api.DEADLINE, 3, api.WAIT, 200, api.NOP, 0))
	c := inTurn(p, p)
	c.Frame, c.Watch = 2, 8
	k := booted(t, c)
	run(t, k, 20)
	want(t, "P6: the order", k, 0, "1 0 [0 0] 5/0s 2/0", "021 121 051 151 031 021 131 121 051 151")
}

func TestP6TickRefuses(t *testing.T) {
	k := booted(t, inTurn(partition(9, "111111", process(0, api.ADD, 1, api.JNZ, 0))))
	run(t, k, 3)
	for _, n := range []int{-1, 1001, 1 << 32, -1 << 32, 1<<63 - 1, -1 << 63} {
		if done, e := k.Tick(n); done != 0 || e != api.ErrArg {
			t.Errorf("P6: Tick(%d): %d, %d, want 0, ErrArg", n, done, e)
		}
	}
	run(t, k, 0)
	want(t, "P6: nothing is changed", k, 0, "1 0 [0 0] 1/2", "")
	if k.Now() != 3 {
		t.Errorf("P7: Now: %d, want 3", k.Now())
	}
	run(t, k, 1000)
	if k.Now() != 1003 {
		t.Errorf("P7: Now: %d, want 1003", k.Now())
	}
}
