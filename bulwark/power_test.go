package bulwark_test

import (
	"reflect"
	"testing"

	"bulwark/api"
)

// lostBy is a program that stores, and then falls at tick 3, by its last instruction.
func lostBy(actions string) api.Config {
	return inTurn(partition(9, actions, process(0, api.ADD, 5, api.STORE, 0, api.ADD, 1, api.RAISE, 0)))
}

func TestP6PowerIsLostInATick(t *testing.T) {
	for action := byte('1'); action <= '7'; action++ {
		f := api.NewFlash(nil)
		k := booted(t, lostBy("111"+string(action)+"11"), f)
		f.Cut(32, 0)
		if done, e := k.Tick(9); done != 3 || e != api.ErrPower {
			t.Errorf("P6: action %c: Tick(9): %d, %d, want 3, ErrPower", action, done, e)
		}
		if k.Now() != 3 {
			t.Errorf("P7: action %c: Now: %d, want 3", action, k.Now())
		}
		if got := shown(t, k, 0)[4:]; got != "[5 0] 4/6s" {
			t.Errorf("P6: action %c: it stays as it was when the append failed: %s", action, got)
		}
		if v, _ := k.Look(0); v.Mode != api.Cold {
			t.Errorf("P6: action %c: the mode is %d", action, v.Mode)
		}
	}
}

// Once it has lost power, a kernel does nothing any more, even if the flash has power again.
func TestP6PowerWasLost(t *testing.T) {
	f := api.NewFlash(nil)
	k := booted(t, lostBy("111411"), f)
	f.Cut(5, 0)
	k.Tick(100)
	f.Restore()
	views, log, now := all(k, 1)
	done := f.Done()
	for _, n := range []int{0, 1, 1000} {
		if done, e := k.Tick(n); done != 0 || e != api.ErrPower {
			t.Errorf("P6: Tick(%d) without power: %d, %d, want 0, ErrPower", n, done, e)
		}
	}
	for _, n := range []int{-1, 1001} {
		if done, e := k.Tick(n); done != 0 || e != api.ErrArg {
			t.Errorf("P6: Tick(%d) without power: %d, %d, want 0, ErrArg", n, done, e)
		}
	}
	if e := k.Inject(0, 0, 1); e != api.ErrPower {
		t.Errorf("P6: Inject without power: %d", e)
	}
	for _, c := range [][3]int{{1, 0, 0}, {0, 1, 0}, {0, 0, 5}} {
		if e := k.Inject(c[0], c[1], c[2]); e != api.ErrArg {
			t.Errorf("P6: Inject%v without power: %d, want ErrArg", c, e)
		}
	}
	again, logAgain, nowAgain := all(k, 1)
	if !reflect.DeepEqual(views, again) || !reflect.DeepEqual(log, logAgain) || now != nowAgain || f.Done() != done {
		t.Errorf("P6: without power something was changed: %+v, want %+v", again, views)
	}
	if _, e := k.Look(1); e != api.ErrArg {
		t.Errorf("P7: Look without power: %d", e)
	}
}

func TestP6PowerIsLostInInject(t *testing.T) {
	f := api.NewFlash(nil)
	c := inTurn(partition(9, "455555", process(0, api.ADD, 1, api.JNZ, 0)), partition(9, "666666", process(0, api.NOP, 0)))
	k := booted(t, c, f)
	run(t, k, 5)
	inject(t, k, 1, 0, 0)
	f.Cut(15, 255)
	inject(t, k, 1, 0, 1) // nothing is written, as it is idle
	if e := k.Inject(0, 0, 0); e != api.ErrPower {
		t.Errorf("P6: Inject: %d, want ErrPower", e)
	}
	want(t, "P6: the power is lost", k, 0, "1 0 [0 0] 1/2", "106")
	f.Restore()
	if e := k.Inject(1, 0, 0); e != api.ErrPower {
		t.Errorf("P6: Inject of one that is idle, without power: %d, want ErrPower", e)
	}
	if done, e := k.Tick(1); done != 0 || e != api.ErrPower || k.Now() != 5 {
		t.Errorf("P6: Tick without power: %d, %d", done, e)
	}
	want(t, "P6: a second start", booted(t, c, f), 0, "1 0 [0 0] 0/0", "106")
}

// What did not go wrong is not lost: the power fails only where something is written.
func TestP6PowerThatIsNotNeeded(t *testing.T) {
	f := api.NewFlash(nil)
	k := booted(t, quiet("111111"), f)
	f.Cut(0, 0)
	run(t, k, 1000)
	f.Restore()
	inject(t, k, 0, 0, 0)
	want(t, "P6: the power is back", k, 0, "1 0 [0 0] 1/0s", "001")
}

// Of several faults in a tick those ahead of the loss stay done, though the tick is not.
func TestP6PowerIsLostWithinATick(t *testing.T) {
	dueIn := func(ticks int) api.Partition {
		return partition(9, "115114", process(0, api.ADD, 1, api.STORE, 0, api.DEADLINE, ticks, api.WAIT, 200, api.NOP, 0))
	}
	petted := partition(9, "111511", process(0, api.ADD, 1, api.PET, 0, api.ADD, 1, api.RAISE, 0, api.NOP, 0))
	for _, c := range []struct {
		name   string
		config api.Config
		cut    int
		done   int
		views  []string
		log    string
	}{
		{"two deadlines, the first", inTurn(dueIn(8), dueIn(7)), 20, 12, []string{"1 0 [1 0] 4/1", "1 0 [1 0] 4/1"}, ""},
		{"two deadlines, the second", inTurn(dueIn(8), dueIn(7)), 33 + 4, 12, []string{"1 1 [0 0] 0/0", "1 0 [1 0] 4/1"}, "025"},
		{"a deadline, and the watch of the other", watched(12, inTurn(dueIn(8), dueIn(8))), 33, 12, []string{"1 1 [0 0] 0/0", "1 0 [1 0] 4/1"}, "025"},
		{"three watches, the third", watched(3, inTurn(dueIn(9), dueIn(9), dueIn(9))), 33 + 16 + 15, 3, []string{"2 1 [0 0] 0/0", "2 1 [0 0] 0/0", "1 0 [0 0] 1/1"}, "054 154"},
		{"the watch of the other, and RAISE", watched(6, inTurn(petted, dueIn(9))), 33, 6, []string{"1 0 [0 0] 4/2", "2 1 [1 0] 0/0"}, "154"},
	} {
		f := api.NewFlash(nil)
		k := booted(t, c.config, f)
		f.Cut(c.cut, 255)
		if done, e := k.Tick(50); done != c.done || e != api.ErrPower || k.Now() != c.done {
			t.Errorf("P6: %s: %d, %d, tick %d, want %d, ErrPower", c.name, done, e, k.Now(), c.done)
		}
		for part, view := range c.views {
			want(t, "P6: "+c.name, k, part, view, c.log)
		}
	}
}
