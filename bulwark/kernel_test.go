package bulwark_test

import (
	"fmt"
	"strings"
	"testing"

	"bulwark/api"
	"bulwark/bulwark"
)

// code is instructions, each an op and its argument.
func code(pairs ...int) []api.Ins {
	var list []api.Ins
	for at := 0; at < len(pairs); at += 2 {
		list = append(list, api.Ins{Op: pairs[at], Arg: pairs[at+1]})
	}
	return list
}

// process is a process of some priority.
func process(priority int, pairs ...int) api.Process {
	return api.Process{Priority: priority, Code: code(pairs...)}
}

// partition is one of two words; the actions are a digit for each code.
func partition(limit int, actions string, processes ...api.Process) api.Partition {
	p := api.Partition{Words: 2, Limit: limit, Processes: processes}
	for n := range p.Actions {
		p.Actions[n] = int(actions[n] - '0')
	}
	return p
}

// ofSystem is a partition of the system.
func ofSystem(p api.Partition) api.Partition {
	p.System = true
	return p
}

// inTurn is a configuration of partitions that have a tick each.
func inTurn(parts ...api.Partition) api.Config {
	c := api.Config{Frame: len(parts), Parts: parts}
	for at := range parts {
		c.Windows = append(c.Windows, api.Window{Part: at, First: at, Many: 1})
	}
	return c
}

// watched is a configuration with a watch.
func watched(ticks int, c api.Config) api.Config {
	c.Watch = ticks
	return c
}

// joined is a configuration with channels.
func joined(c api.Config, channels ...api.Channel) api.Config {
	c.Channels = channels
	return c
}

// booted is a kernel on a flash; with none, on one that is erased.
func booted(t *testing.T, c api.Config, flash ...*api.Flash) *bulwark.Kernel {
	t.Helper()
	f := append(flash, api.NewFlash(nil))[0]
	k, e := bulwark.Boot(written(c), f)
	if k == nil || e != api.OK {
		t.Fatalf("P5: Boot of %+v: %d", c, e)
	}
	return k
}

// run does ticks, and asks that they are done.
func run(t *testing.T, k *bulwark.Kernel, n int) {
	t.Helper()
	if done, e := k.Tick(n); done != n || e != api.OK {
		t.Fatalf("P6: Tick(%d): %d, %d", n, done, e)
	}
}

// inject makes a fault, and asks that this is done.
func inject(t *testing.T, k *bulwark.Kernel, part, place, code int) {
	t.Helper()
	if e := k.Inject(part, place, code); e != api.OK {
		t.Fatalf("P6: Inject(%d, %d, %d): %d", part, place, code, e)
	}
}

// shown is a partition, as a text: its mode, its restarts, its words, and of each process Next/Acc, with s if it is stopped.
func shown(t *testing.T, k *bulwark.Kernel, part int) string {
	t.Helper()
	v, e := k.Look(part)
	if e != api.OK {
		t.Fatalf("P7: Look(%d): %d", part, e)
	}
	text := fmt.Sprint(v.Mode, " ", v.Restarts, " ", v.Words)
	for _, s := range v.Processes {
		text += fmt.Sprintf(" %d/%d", s.Next, s.Acc) + strings.Repeat("s", map[bool]int{true: 1}[s.Stopped])
	}
	return text
}

// told is a log, as a text: partition, code and action of each fault.
func told(k *bulwark.Kernel) string {
	var list []string
	for _, r := range k.Log() {
		list = append(list, fmt.Sprintf("%d%d%d", r.Part, r.Code, r.Arg))
	}
	return strings.Join(list, " ")
}

// want asks how a partition is, and what the log tells.
func want(t *testing.T, name string, k *bulwark.Kernel, part int, view, log string) {
	t.Helper()
	if got := shown(t, k, part); got != view {
		t.Errorf("%s: partition %d is %s, want %s", name, part, got, view)
	}
	if got := told(k); got != log {
		t.Errorf("%s: the log is (%s), want (%s)", name, got, log)
	}
}

// all is what a kernel answers, without changing it.
func all(k *bulwark.Kernel, parts int) (views []api.View, log []api.Record, now int) {
	for part := range parts {
		v, _ := k.Look(part)
		views = append(views, v)
	}
	return views, k.Log(), k.Now()
}
