package bulwark_test

import (
	"fmt"
	"maps"
	"math/rand/v2"
	"slices"
	"testing"

	"bulwark/api"
	"bulwark/bulwark"
)

// oneAppend is the most that is written for a fault: a sector erased, its header, a record.
const oneAppend = 1 + 2*slotWrites

// sectorFaults is how many faults a sector has room for.
const sectorFaults = api.SectorBytes/api.SlotBytes - 1

// residues is what a write that is cut off may leave, of each byte: nothing, all, and some bits.
var residues = []byte{0, 255, 254, 1, 128, 127, 0x5a}

// ledger is what must be known of a flash that was erased at first, by what the calls answered.
type ledger struct {
	flash  *api.Flash
	kernel *bulwark.Kernel
	config api.Config
	faults []api.Record
	begun  map[int]int // how many faults there were when a generation began
	tries  int         // since the last generation began
	losses int
}

// newLedger is a ledger of a flash that is erased, and a kernel on it.
func newLedger(t *testing.T, c api.Config) *ledger {
	f := api.NewFlash(nil)
	return &ledger{flash: f, kernel: booted(t, c, f), config: c, begun: map[int]int{}}
}

// copied is the same, with a flash and a kernel of its own.
func (l *ledger) copied(t *testing.T) *ledger {
	t.Helper()
	next := *l
	next.flash = api.NewFlash(l.flash.Bytes())
	next.kernel = booted(t, l.config, next.flash)
	next.faults = slices.Clone(l.faults)
	next.begun = maps.Clone(l.begun)
	return &next
}

// generations is those of the sectors that are headed.
func (l *ledger) generations() (list []int) {
	b := l.flash.Bytes()
	for at := 0; at < len(b); at += api.SectorBytes {
		if sort, r, _ := bulwark.Sort(b[at : at+api.SlotBytes]); sort == api.Good && r.Kind == api.Header {
			list = append(list, r.Seq)
		}
	}
	return list
}

// next is the record of a fault that is about to be appended.
func (l *ledger) next(part, code int) api.Record {
	r := api.Record{Kind: api.Fault, Part: part, Code: code, Seq: 1, Arg: l.config.Parts[part].Actions[code]}
	if log := l.kernel.Log(); len(log) > 0 {
		r.Seq = log[len(log)-1].Seq + 1
	}
	if (r.Arg == api.Warmly || r.Arg == api.Coldly) && l.restarts(part) >= l.config.Parts[part].Limit {
		r.Arg = api.Idly
	}
	return r
}

// restarts is how many restarts of a partition are known.
func (l *ledger) restarts(part int) int {
	many := 0
	for _, r := range l.faults {
		if r.Part == part && (r.Arg == api.Warmly || r.Arg == api.Coldly) {
			many++
		}
	}
	return many
}

// inject makes a fault; if the power is lost, it is given back, and a kernel is started again.
func (l *ledger) inject(t *testing.T, part, code int) api.Errno {
	t.Helper()
	if v, _ := l.kernel.Look(part); v.Mode == api.Idle {
		return l.kernel.Inject(part, 0, code)
	}
	r, before := l.next(part, code), len(l.faults)
	l.tries++
	e := l.kernel.Inject(part, 0, code)
	switch e {
	case api.OK:
		l.faults = append(l.faults, r)
	case api.ErrPower:
		l.losses++
		l.flash.Restore()
		l.kernel = booted(t, l.config, l.flash)
		if log := l.kernel.Log(); len(log) > 0 && log[len(log)-1] == r {
			l.faults = append(l.faults, r) // the one more
		}
		l.askModes(t)
	default:
		t.Fatalf("P6: Inject(%d, 0, %d): %d", part, code, e)
	}
	l.begin(t, before)
	l.ask(t)
	return e
}

// begin notes a generation that is new. Each slot of the sector ahead has been tried by then.
func (l *ledger) begin(t *testing.T, faults int) {
	t.Helper()
	for _, g := range l.generations() {
		if _, known := l.begun[g]; known {
			continue
		}
		if _, follows := l.begun[g-1]; g != 1 && (!follows || l.tries <= sectorFaults) {
			t.Fatalf("P8: generation %d begins behind %v and %d faults", g, l.begun, l.tries-1)
		}
		l.begun[g], l.tries = faults, 1
	}
}

// ask asks that the log and the restarts are those of the ledger.
func (l *ledger) ask(t *testing.T) {
	t.Helper()
	from := 0
	if list := l.generations(); len(list) > 0 {
		from = l.begun[slices.Min(list)]
	}
	if log := l.kernel.Log(); !slices.Equal(log, l.faults[from:]) {
		t.Fatalf("P8: the log is %+v, want %+v, behind %d losses", log, l.faults[from:], l.losses)
	}
	for part := range l.config.Parts {
		if v, _ := l.kernel.Look(part); v.Restarts != l.restarts(part) {
			t.Fatalf("P9: partition %d has %d restarts, want %d, behind %d losses", part, v.Restarts, l.restarts(part), l.losses)
		}
	}
}

// askModes asks that the partitions were started as the log says.
func (l *ledger) askModes(t *testing.T) {
	t.Helper()
	modes := slices.Repeat([]int{api.Cold}, len(l.config.Parts))
	for _, r := range l.kernel.Log() {
		switch r.Arg {
		case api.Idly:
			modes[r.Part] = api.Idle
		case api.Warmly:
			modes[r.Part] = api.Warm
		default:
			modes[r.Part] = api.Cold
		}
	}
	for part, mode := range modes {
		if v, _ := l.kernel.Look(part); v.Mode != mode {
			t.Fatalf("P5: behind %d losses partition %d is %d, want %d", l.losses, part, v.Mode, mode)
		}
	}
}

// untiring is four partitions that do not become idle, so that faults go on.
func untiring() api.Config { return quiet("112371") }

func TestP8ThePowerIsLostAtEveryWrite(t *testing.T) {
	whole := newLedger(t, untiring())
	for n := range 3*sectorFaults + 2 {
		for after := range oneAppend {
			for _, residue := range residues {
				l := whole.copied(t)
				l.flash.Cut(after, residue)
				l.inject(t, n%4, n%5)
				if many := len(l.faults) - n; many < 0 || many > 1 {
					t.Fatalf("P8: %d faults, and the power is lost: %d more", n, many)
				}
				l.flash.Restore()
				for m := range sectorFaults + 1 {
					l.inject(t, m%4, m%3)
				}
			}
		}
		if e := whole.inject(t, n%4, n%5); e != api.OK {
			t.Fatalf("P6: Inject: %d", e)
		}
	}
}

// A fault whose commit was cleared, though the power was lost there, is the one more; any other that was cut off is none.
func TestP8TheOneMore(t *testing.T) {
	for _, c := range []struct {
		faults, after int
		residue       byte
		many          int
	}{
		{0, oneAppend - 1, 0, 1}, {0, oneAppend - 1, 1, 0}, {0, oneAppend - 1, 255, 0}, {0, oneAppend - 2, 0, 0},
		{0, slotWrites, 0, 0}, {0, 0, 0, 0}, {0, 0, 255, 0},
		{3, slotWrites - 1, 0, 4}, {3, slotWrites - 1, 128, 3}, {3, slotWrites - 2, 0, 3}, {3, 0, 255, 3},
		{7, oneAppend - 1, 0, 8}, {7, slotWrites, 0, 7}, {7, slotWrites, 255, 7}, {7, 0, 255, 7},
		{13, slotWrites - 1, 0, 14}, {13, 5, 0, 13},
		{14, 0, 0, 14}, {14, 0, 1, 7}, {14, 0, 255, 7}, {14, 1, 255, 7}, {14, slotWrites, 0, 7}, {14, oneAppend - 1, 0, 8}, {14, oneAppend - 1, 2, 7},
	} {
		l := newLedger(t, untiring())
		for n := range c.faults {
			l.inject(t, n%4, n%5)
		}
		l.flash.Cut(c.after, c.residue)
		if e := l.inject(t, 1, 3); e != api.ErrPower {
			t.Errorf("P6: Inject: %d, want ErrPower", e)
		}
		if log := l.kernel.Log(); len(log) != c.many {
			t.Errorf("P8: %d faults, and the power is lost behind %d writes, residue %d: a log of %d, want %d", c.faults, c.after, c.residue, len(log), c.many)
		}
	}
}

// The power is lost twice, one time ahead of every write, and the next time likewise.
func TestP8ThePowerIsLostTwice(t *testing.T) {
	for _, n := range []int{0, 1, 6, 7, 13, 14} {
		whole := newLedger(t, untiring())
		for m := range n {
			whole.inject(t, m%4, m%5)
		}
		for after := range oneAppend {
			for _, residue := range residues[:3] {
				once := whole.copied(t)
				once.flash.Cut(after, residue)
				once.inject(t, 1, 1)
				for again := after % 3; again < oneAppend; again += 3 {
					twice := once.copied(t)
					twice.flash.Cut(again, residues[(again+after)%len(residues)])
					twice.inject(t, 2, 2)
					twice.flash.Restore()
					twice.inject(t, 3, 4)
					twice.inject(t, 0, 0)
				}
			}
		}
	}
}

// tiring is three partitions that are restarted as often as their limits say, beside one that does not become idle.
func tiring() api.Config {
	c := untiring()
	for part, limit := range []int{0, 4, 9} {
		c.Parts[part].Limit, c.Parts[part].Actions = limit, partition(0, "145111").Actions
	}
	return c
}

// The power is lost over and over again, at random.
func TestP8P9ThePowerIsLostOften(t *testing.T) {
	losses, sectors := 0, 0
	for seed := range uint64(150) {
		r := rand.New(rand.NewPCG(seed, 8))
		l := newLedger(t, []api.Config{tiring(), untiring()}[seed%2])
		for range 120 {
			if r.IntN(3) == 0 {
				residue := residues[r.IntN(len(residues))]
				if r.IntN(2) == 0 {
					residue = byte(r.IntN(256))
				}
				l.flash.Cut(r.IntN(3*oneAppend), residue)
			}
			l.inject(t, r.IntN(4), r.IntN(5))
		}
		losses += l.losses
		sectors += len(l.begun)
	}
	if losses < 1500 || sectors < 1000 {
		t.Errorf("P8: %d losses, %d sectors: that tells little", losses, sectors)
	}
}

// A program is cut off in the middle of its ticks; behind each start it falls as it did ahead.
func TestP8ThePowerIsLostInTicks(t *testing.T) {
	c := watched(7, inTurn(
		partition(9, "111311", process(0, api.ADD, 1, api.RAISE, 0)),
		partition(9, "113111", process(0, api.DEADLINE, 3, api.WAIT, 9, api.NOP, 0))))
	const ticks = 60
	f := api.NewFlash(nil)
	run(t, booted(t, c, f), ticks)
	all := faultsOf(t, c, ticks)
	for writes := range f.Done() {
		for _, residue := range residues[:3] {
			f := api.NewFlash(nil)
			f.Cut(writes, residue)
			k := booted(t, c, f)
			done, e := k.Tick(ticks)
			if e != api.ErrPower || done >= ticks || k.Now() != done {
				t.Fatalf("P6: the power is lost behind %d writes: %d, %d", writes, done, e)
			}
			f.Restore()
			log, whole := booted(t, c, f).Log(), appendsIn(writes)
			if !endsAt(all, log, whole) && !endsAt(all, log, whole+1) {
				t.Fatalf("P8: the power is lost behind %d writes, residue %d, and %d ticks: %+v, want %d", writes, residue, done, log, whole)
			}
		}
	}
}

// faultsOf is all faults of so many ticks, seen one by one.
func faultsOf(t *testing.T, c api.Config, ticks int) (all []api.Record) {
	t.Helper()
	k := booted(t, c)
	for range ticks {
		run(t, k, 1)
		for _, r := range k.Log() {
			if r.Seq > len(all) {
				all = append(all, r)
			}
		}
	}
	return all
}

// appendsIn is how many faults are appended as a whole by so many writes, onto an erased flash.
func appendsIn(writes int) (many int) {
	for {
		if many%sectorFaults == 0 {
			writes -= oneAppend
		} else {
			writes -= slotWrites
		}
		if writes < 0 {
			return many
		}
		many++
	}
}

// endsAt tells whether a log is a piece of all faults, up to one of them, with those of a sector at least.
func endsAt(all, log []api.Record, end int) bool {
	return len(log) >= min(end, sectorFaults) && len(log) <= end && slices.Equal(log, all[end-len(log):end])
}

// falling is a partition that counts, and then falls, by its own doing, over and over again.
func falling(limit int, action string) api.Partition {
	return partition(limit, "111"+action+"11", process(0, api.ADD, 1, api.RAISE, 0))
}

// restartsSeen does ticks, one by one, and counts the restarts of a partition that falls, as far as the power lasts.
func restartsSeen(t *testing.T, k *bulwark.Kernel, ticks int) (seen int) {
	t.Helper()
	ahead, _ := k.Look(0)
	for range ticks {
		_, e := k.Tick(1)
		v, _ := k.Look(0)
		if ahead.Processes[0].Next == 1 && v.Processes[0].Next == 0 {
			seen++
			if v.Restarts < seen || e != api.OK || v.Mode == api.Idle {
				t.Fatalf("P9: a restart that was not counted: %+v, %d seen, %d", v, seen, e)
			}
		}
		ahead = v
	}
	return seen
}

// lives is how many restarts are seen of a partition that falls, on one flash: in each life but the last one the power is lost,
// behind so many writes.
func lives(t *testing.T, c api.Config, f *api.Flash, residue byte, cuts ...int) (seen int) {
	t.Helper()
	for _, writes := range cuts {
		f.Cut(writes, residue)
		seen += restartsSeen(t, booted(t, c, f), 24)
		f.Restore()
	}
	return seen + restartsSeen(t, booted(t, c, f), 24)
}

// endsIdle asks that a partition was never restarted more often than its limit says, and is idle at last.
func endsIdle(t *testing.T, c api.Config, f *api.Flash, seen, losses int, cuts ...int) {
	t.Helper()
	limit := c.Parts[0].Limit
	if seen > limit || seen < limit-losses {
		t.Fatalf("P9: limit %d, the power is lost behind %v writes: %d restarts", limit, cuts, seen)
	}
	k := booted(t, c, f)
	if v, _ := k.Look(0); v.Restarts != limit || v.Mode != api.Idle {
		t.Fatalf("P9: limit %d, the power is lost behind %v writes: %+v", limit, cuts, v)
	}
}

func TestP9NoMoreRestartsThanTheLimit(t *testing.T) {
	for limit := range api.MaxLimit + 1 {
		for _, action := range []string{"4", "5"} {
			c := inTurn(falling(limit, action))
			f := api.NewFlash(nil)
			endsIdle(t, c, f, lives(t, c, f, 0), 0)
			for writes := range f.Done() {
				for _, residue := range residues[:4] {
					f := api.NewFlash(nil)
					endsIdle(t, c, f, lives(t, c, f, residue, writes), 1, writes)
				}
			}
		}
	}
}

func TestP9ThePowerIsLostTwice(t *testing.T) {
	c := inTurn(falling(2, "4"))
	most := oneAppend + 2*slotWrites
	for first := range most {
		for second := range most {
			f := api.NewFlash(nil)
			residue := residues[(first+second)%len(residues)]
			endsIdle(t, c, f, lives(t, c, f, residue, first, second), 2, first, second)
		}
	}
}

// A power that is lost in every life, behind as many writes each time, does not let a partition be restarted for ever.
func TestP9ThePowerIsLostInEveryLife(t *testing.T) {
	for limit := range 4 {
		c := inTurn(falling(limit, "5"))
		for writes := range oneAppend + slotWrites {
			for _, residue := range residues {
				f := api.NewFlash(nil)
				cuts := slices.Repeat([]int{writes}, 8)
				endsIdle(t, c, f, lives(t, c, f, residue, cuts...), len(cuts), cuts...)
			}
		}
	}
}

// Once its faults are no longer in the log, a partition starts cold; but its restarts are known, and there is none more.
func TestP9RestartsAreKnownBehindTheLog(t *testing.T) {
	for limit := range api.MaxLimit + 1 {
		c := inTurn(partition(limit, "145111", process(0, api.NOP, 0)), partition(0, "111111", process(0, api.NOP, 0)))
		l := newLedger(t, c)
		for n := range limit {
			l.inject(t, 0, 1+n%2)
			l.flash.Cut(n, 255)
			l.inject(t, 1, 0)
		}
		for n := range 3 * sectorFaults {
			l.inject(t, 1, n%5)
		}
		k := booted(t, c, l.flash)
		if got := shown(t, k, 0); got != fmt.Sprintf("1 %d [0 0] 0/0", limit) {
			t.Errorf("P9: limit %d: behind the log it is %s", limit, got)
		}
		inject(t, k, 0, 0, 1)
		if got := shown(t, k, 0); got != fmt.Sprintf("3 %d [0 0] 0/0", limit) {
			t.Errorf("P9: limit %d: behind the log, and a fault, it is %s", limit, got)
		}
	}
}
