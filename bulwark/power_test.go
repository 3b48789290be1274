package bulwark_test

import (
	"reflect"
	"testing"

	"bulwark/api"
)

// lostBy is a program that stores, and then falls at tick 3, by its last instruction.
func lostBy(actions string) api.Config {
	return inTurn(partition(9, actions, process(0, api.ADD, 5, api.STORE, 0, api.ADD, 1, api.RAISE, 0)))
}

func TestP6PowerIsLostInATick(t *testing.T) {
	for action := byte('1'); action <= '7'; action++ {
		f := api.NewFlash(nil)
		k := booted(t, lostBy("111"+string(action)+"11"), f)
		f.Cut(32, 0)
		if done, e := k.Tick(9); done != 3 || e != api.ErrPower {
			t.Errorf("P6: action %c: Tick(9): %d, %d, want 3, ErrPower", action, done, e)
		}
		if k.Now() != 3 {
			t.Errorf("P7: action %c: Now: %d, want 3", action, k.Now())
		}
		if got := shown(t, k, 0)[4:]; got != "[5 0] 4/6s" {
			t.Errorf("P6: action %c: it stays as it was when the append failed: %s", action, got)
		}
		if v, _ := k.Look(0); v.Mode != api.Cold {
			t.Errorf("P6: action %c: the mode is %d", action, v.Mode)
		}
	}
}

// Once it has lost power, a kernel does nothing any more, even if the flash has power again.
func TestP6PowerWasLost(t *testing.T) {
	f := api.NewFlash(nil)
	k := booted(t, lostBy("111411"), f)
	f.Cut(5, 0)
	k.Tick(100)
	f.Restore()
	views, log, now := all(k, 1)
	done := f.Done()
	for _, n := range []int{0, 1, 1000} {
		if done, e := k.Tick(n); done != 0 || e != api.ErrPower {
			t.Errorf("P6: Tick(%d) without power: %d, %d, want 0, ErrPower", n, done, e)
		}
	}
	for _, n := range []int{-1, 1001} {
		if done, e := k.Tick(n); done != 0 || e != api.ErrArg {
			t.Errorf("P6: Tick(%d) without power: %d, %d, want 0, ErrArg", n, done, e)
		}
	}
	if e := k.Inject(0, 0, 1); e != api.ErrPower {
		t.Errorf("P6: Inject without power: %d", e)
	}
	for _, c := range [][3]int{{1, 0, 0}, {0, 1, 0}, {0, 0, 5}} {
		if e := k.Inject(c[0], c[1], c[2]); e != api.ErrArg {
			t.Errorf("P6: Inject%v without power: %d, want ErrArg", c, e)
		}
	}
	again, logAgain, nowAgain := all(k, 1)
	if !reflect.DeepEqual(views, again) || !reflect.DeepEqual(log, logAgain) || now != nowAgain || f.Done() != done {
		t.Errorf("P6: without power something was changed: %+v, want %+v", again, views)
	}
	if _, e := k.Look(1); e != api.ErrArg {
		t.Errorf("P7: Look without power: %d", e)
	}
}

func TestP6PowerIsLostInInject(t *testing.T) {
	f := api.NewFlash(nil)
	c := inTurn(partition(9, "455555", process(0, api.ADD, 1, api.JNZ, 0)), partition(9, "666666", process(0, api.NOP, 0)))
	k := booted(t, c, f)
	run(t, k, 5)
	inject(t, k, 1, 0, 0)
	f.Cut(15, 255)
	inject(t, k, 1, 0, 1) // nothing is written, as it is idle
	if e := k.Inject(0, 0, 0); e != api.ErrPower {
		t.Errorf("P6: Inject: %d, want ErrPower", e)
	}
	want(t, "P6: the power is lost", k, 0, "1 0 [0 0] 1/2", "106")
	f.Restore()
	if e := k.Inject(1, 0, 0); e != api.ErrPower {
		t.Errorf("P6: Inject of one that is idle, without power: %d, want ErrPower", e)
	}
	if done, e := k.Tick(1); done != 0 || e != api.ErrPower || k.Now() != 5 {
		t.Errorf("P6: Tick without power: %d, %d", done, e)
	}
	want(t, "P6: a second start", booted(t, c, f), 0, "1 0 [0 0] 0/0", "106")
}

// What did not go wrong is not lost: the power fails only where something is written.
func TestP6PowerThatIsNotNeeded(t *testing.T) {
	f := api.NewFlash(nil)
	k := booted(t, quiet("111111"), f)
	f.Cut(0, 0)
	run(t, k, 1000)
	f.Restore()
	inject(t, k, 0, 0, 0)
	want(t, "P6: the power is back", k, 0, "1 0 [0 0] 1/0s", "001")
}
