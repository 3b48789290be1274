package bulwark_test

import (
	"testing"

	"bulwark/api"
)

// far is a partition of two processes that have come some way by tick 6, and sleep from then on, with a deadline.
func far(limit int, actions string) api.Partition {
	return partition(limit, actions,
		process(5, api.ADD, 3, api.STORE, 1, api.DEADLINE, 30, api.WAIT, 200, api.NOP, 0),
		process(1, api.ADD, 4, api.DEADLINE, 40, api.WAIT, 200, api.NOP, 0))
}

func TestP6Actions(t *testing.T) {
	for _, c := range []struct {
		actions string
		process int
		view    string
		log     string
		later   string
	}{
		{"111111", 0, "1 0 [0 3] 4/3 3/4", "001", "001 021 021"},
		{"211111", 0, "1 0 [0 3] 4/3s 3/4", "002", "002 021"},
		{"211111", 1, "1 0 [0 3] 4/3 3/4s", "002", "002 021"},
		{"311111", 0, "1 0 [0 3] 0/0 3/4", "003", "003 021 021"},
		{"311111", 1, "1 0 [0 3] 4/3 0/0", "003", "003 021 021"},
		{"411111", 0, "2 1 [0 3] 0/0 0/0", "004", "004 021 021"},
		{"411111", 1, "2 1 [0 3] 0/0 0/0", "004", "004 021 021"},
		{"511111", 1, "1 1 [0 0] 0/0 0/0", "005", "005 021 021"},
		{"611111", 1, "3 0 [0 3] 4/3 3/4", "006", "006"},
		{"711111", 1, "1 0 [0 0] 0/0 0/0", "007", "007 021 021"},
	} {
		k := booted(t, inTurn(far(9, c.actions)))
		run(t, k, 20)
		want(t, "P6: ahead of a fault", k, 0, "1 0 [0 3] 4/3 3/4", "")
		inject(t, k, 0, c.process, 0)
		want(t, "P6: action "+c.actions[:1], k, 0, c.view, c.log)
		run(t, k, 60)
		if told(k) != c.later {
			t.Errorf("P6: action %s, and deadlines: (%s), want (%s)", c.actions[:1], told(k), c.later)
		}
	}
}

// A process that is begun anew does not sleep, has no deadline, and runs, even if it was stopped.
func TestP6BegunAnew(t *testing.T) {
	for _, action := range []string{"3", "4", "5", "7"} {
		k := booted(t, inTurn(partition(9, action+"11111", process(0, api.ADD, 1, api.DEADLINE, 9, api.WAIT, 100, api.NOP, 0))))
		run(t, k, 5)
		inject(t, k, 0, 0, 0)
		run(t, k, 1)
		if v, _ := k.Look(0); v.Processes[0] != (api.State{Next: 1, Acc: 1}) {
			t.Errorf("P6: action %s, it does not sleep: %+v", action, v.Processes[0])
		}
		inject(t, k, 0, 0, 0)
		run(t, k, 5)
		if len(k.Log()) != 2 {
			t.Errorf("P6: action %s, it has no deadline: (%s)", action, told(k))
		}
		stopped := booted(t, inTurn(partition(9, action+"11111", process(0, api.STOP, 1))))
		run(t, stopped, 5)
		inject(t, stopped, 0, 0, 0)
		if v, _ := stopped.Look(0); v.Processes[0] != (api.State{}) {
			t.Errorf("P6: action %s, it is not stopped: %+v", action, v.Processes[0])
		}
	}
}

// Each code has its own action.
func TestP6TheTableOfActions(t *testing.T) {
	for _, table := range []string{"123456", "654321"[:5] + "1", "765432"[:5] + "7", "246135"[:5] + "5"} {
		for code := range api.Codes - 1 {
			k := booted(t, inTurn(partition(9, table, process(0, api.NOP, 0))))
			inject(t, k, 0, 0, code)
			log := k.Log()
			if len(log) != 1 || log[0] != (api.Record{Kind: 1, Part: 0, Code: code, Seq: 1, Arg: int(table[code] - '0')}) {
				t.Errorf("P6: table %s, code %d: %+v", table, code, log)
			}
		}
		k := booted(t, watched(1, inTurn(partition(9, table, process(0, api.WAIT, 9)))))
		run(t, k, 2)
		if log := k.Log(); len(log) != 1 || log[0] != (api.Record{Kind: 1, Part: 0, Code: 5, Seq: 1, Arg: int(table[5] - '0')}) {
			t.Errorf("P6: table %s, code 5: %+v", table, log)
		}
	}
}

func TestP6TheLimitOfRestarts(t *testing.T) {
	for limit := range api.MaxLimit + 1 {
		for _, action := range []int{api.Warmly, api.Coldly} {
			p := partition(limit, "111111", process(0, api.RAISE, 0, api.NOP, 0))
			p.Actions[3] = action
			other := partition(limit, "444444", process(0, api.STOP, 0))
			f := api.NewFlash(nil)
			k := booted(t, inTurn(p, other), f)
			for many := range limit {
				run(t, k, 2)
				if v, _ := k.Look(0); v.Restarts != many+1 || v.Mode == api.Idle || v.Processes[0] != (api.State{}) {
					t.Fatalf("P6: limit %d, action %d, fault %d: %+v", limit, action, many, v)
				}
			}
			run(t, k, 20)
			v, _ := k.Look(0)
			log := k.Log()
			if v.Restarts != limit || v.Mode != api.Idle || log[len(log)-1].Arg != api.Idly {
				t.Errorf("P6: limit %d, action %d: %+v (%s)", limit, action, v, told(k))
			}
			if v, _ := k.Look(1); v.Restarts != 0 || v.Mode != api.Cold {
				t.Errorf("P6: limit %d, the other one: %+v", limit, v)
			}
			if v, _ := booted(t, inTurn(p, other), f).Look(0); v.Restarts != limit || v.Mode != api.Idle {
				t.Errorf("P6: limit %d, a second start: %+v", limit, v)
			}
		}
	}
}

// A restart that was counted ahead of the start counts for the limit.
func TestP6TheLimitCountsRestartsAheadOfTheStart(t *testing.T) {
	c := inTurn(partition(3, "455555", process(0, api.NOP, 0)), partition(3, "555555", process(0, api.NOP, 0)))
	f := flashOf(slots(), slots(header(1, 2, 9), fault(1, 1, 5)))
	k := booted(t, c, f)
	inject(t, k, 0, 0, 0)
	want(t, "P6: below the limit", k, 0, "2 3 [0 0] 0/0", "135 004")
	inject(t, k, 0, 0, 0)
	want(t, "P6: at the limit", k, 0, "3 3 [0 0] 0/0", "135 004 006")
	inject(t, k, 1, 0, 1)
	want(t, "P6: above the limit", k, 1, "3 10 [0 0] 0/0", "135 004 006 116")
}

// The limit is for restarts alone: other actions stay as they are.
func TestP6TheLimitIsForRestartsAlone(t *testing.T) {
	for action := 1; action <= 7; action++ {
		p := partition(0, "111111", process(0, api.NOP, 0))
		p.Actions[1] = action
		want := action
		if action == api.Warmly || action == api.Coldly {
			want = api.Idly
		}
		k := booted(t, inTurn(p))
		inject(t, k, 0, 0, 1)
		if log := k.Log(); log[0].Arg != want {
			t.Errorf("P6: the limit 0, action %d: %d, want %d", action, log[0].Arg, want)
		}
	}
}

func TestP6ResetOfAllThatRun(t *testing.T) {
	k := booted(t, inTurn(far(9, "711111"), far(0, "411111"), far(9, "411111"), far(9, "111111")))
	run(t, k, 28)
	inject(t, k, 1, 0, 0)
	inject(t, k, 2, 0, 0)
	run(t, k, 8)
	inject(t, k, 0, 1, 0)
	want(t, "P6: reset", k, 0, "1 0 [0 0] 0/0 0/0", "106 204 007")
	want(t, "P6: reset, of one that is idle", k, 1, "3 0 [0 3] 4/3 3/4", "106 204 007")
	want(t, "P6: reset, of one that is warm", k, 2, "1 1 [0 0] 0/0 0/0", "106 204 007")
	want(t, "P6: reset, of one that is cold", k, 3, "1 0 [0 0] 0/0 0/0", "106 204 007")
	run(t, k, 20)
	want(t, "P6: behind the reset", k, 3, "1 0 [0 3] 4/3 1/4", "106 204 007")
}

// The instruction behind is next ahead of what a fault does, also where there is none.
func TestP6NextIsAheadOfTheFault(t *testing.T) {
	for _, c := range []struct{ actions, view string }{
		{"111111", "1 0 [0 0] 1/0s"}, {"111211", "1 0 [0 0] 1/0s"}, {"111311", "1 0 [0 0] 0/0"},
		{"111411", "2 1 [0 0] 0/0"}, {"111511", "1 1 [0 0] 0/0"}, {"111611", "3 0 [0 0] 1/0s"}, {"111711", "1 0 [0 0] 0/0"},
	} {
		k := booted(t, inTurn(partition(9, c.actions, process(0, api.RAISE, 0))))
		run(t, k, 1)
		want(t, "P6: RAISE as the last one", k, 0, c.view, "03"+c.actions[3:4])
	}
}

// A partition that is made idle by one deadline does not fall by the next one, nor by its watch, nor does it run.
func TestP6IdleWithinATick(t *testing.T) {
	p := partition(9, "116116",
		process(5, api.DEADLINE, 4, api.WAIT, 200, api.NOP, 0),
		process(1, api.DEADLINE, 2, api.ADD, 1, api.ADD, 1))
	k := booted(t, watched(4, inTurn(p)))
	run(t, k, 9)
	want(t, "P6: idle by a deadline", k, 0, "3 0 [0 0] 2/0 2/1", "026")
	w := booted(t, watched(4, inTurn(partition(9, "111116", process(0, api.ADD, 1, api.JNZ, 0)))))
	run(t, w, 9)
	want(t, "P6: idle by a watch", w, 0, "3 0 [0 0] 0/2", "056")
}

// A restart within a tick: what was begun anew runs in the same tick, without a deadline.
func TestP6RestartWithinATick(t *testing.T) {
	p := partition(9, "114115",
		process(5, api.DEADLINE, 4, api.WAIT, 200, api.NOP, 0),
		process(1, api.DEADLINE, 2, api.ADD, 1, api.ADD, 1))
	k := booted(t, inTurn(p))
	run(t, k, 5)
	want(t, "P6: warm by a deadline", k, 0, "2 1 [0 0] 1/0 0/0", "024")
	w := booted(t, watched(3, inTurn(partition(9, "111115", process(0, api.ADD, 1, api.STORE, 0, api.JNZ, 0)))))
	run(t, w, 4)
	want(t, "P6: cold by a watch", w, 0, "1 1 [0 0] 1/1", "055")
}

func TestP6InjectRefuses(t *testing.T) {
	two := partition(9, "111111", process(0, api.NOP, 0), process(0, api.NOP, 0))
	f := api.NewFlash(nil)
	k := booted(t, inTurn(two, partition(9, "666666", process(0, api.NOP, 0))), f)
	great := []int{-1 << 63, -1 << 32, -256, -1, 1 << 8, 1 << 32, 1<<63 - 1}
	var bad [][3]int
	for _, n := range append(great, 2) {
		bad = append(bad, [3]int{n, 0, 0}, [3]int{0, n, 0}, [3]int{n, n, n})
	}
	for _, n := range append(great, 5, 6) {
		bad = append(bad, [3]int{0, 0, n})
	}
	for _, c := range append(bad, [3]int{1, 1, 0}) {
		if e := k.Inject(c[0], c[1], c[2]); e != api.ErrArg {
			t.Errorf("P6: Inject%v: %d, want ErrArg", c, e)
		}
	}
	if f.Done() != 0 {
		t.Errorf("P6: Inject that was refused has written")
	}
	for _, c := range [][3]int{{0, 0, 0}, {0, 1, 4}, {1, 0, 2}} {
		inject(t, k, c[0], c[1], c[2])
	}
	want(t, "P6: Inject", k, 1, "3 0 [0 0] 0/0", "001 041 126")
	done := f.Done()
	inject(t, k, 1, 0, 3)
	if f.Done() != done {
		t.Errorf("P6: Inject of a partition that is idle has written")
	}
	if e := k.Inject(1, 0, 5); e != api.ErrArg {
		t.Errorf("P6: Inject of a partition that is idle: %d, want ErrArg", e)
	}
	if k.Now() != 0 {
		t.Errorf("P7: Now behind Inject: %d", k.Now())
	}
}

// The document's last two examples.
func TestP6Examples(t *testing.T) {
	k := booted(t, inTurn(partition(1, "111411", process(0, api.RAISE, 0))))
	run(t, k, 1)
	want(t, "P6: the example", k, 0, "2 1 [0 0] 0/0", "034")
	run(t, k, 1)
	want(t, "P6: the example", k, 0, "3 1 [0 0] 1/0s", "034 036")
}
