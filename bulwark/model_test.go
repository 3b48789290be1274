package bulwark_test

import (
	"bytes"
	"math/rand/v2"
	"reflect"
	"testing"

	"bulwark/api"
	"bulwark/bulwark"
)

// model is the document's machine once more, as plainly as its words are, on a flash of its own.
type model struct {
	c        api.Config
	f        *api.Flash
	t        int
	lost     bool
	mode     []int
	began    []int
	words    [][]int
	states   [][]api.State
	sleeps   [][]int
	deadline [][]int // -1: none
	waiting  [][]int
}

// newModel is a model at the start.
func newModel(c api.Config, f *api.Flash) *model {
	m := &model{c: c, f: f, waiting: make([][]int, len(c.Channels))}
	for i, p := range c.Parts {
		n := len(p.Processes)
		m.mode = append(m.mode, api.Cold)
		m.began = append(m.began, 0)
		m.words = append(m.words, make([]int, p.Words))
		m.states = append(m.states, make([]api.State, n))
		m.sleeps = append(m.sleeps, make([]int, n))
		m.deadline = append(m.deadline, make([]int, n))
		for j := range n {
			m.anew(i, j)
		}
	}
	for _, r := range m.log() {
		if r.Part < len(m.mode) {
			m.mode[r.Part] = map[int]int{6: api.Idle, 4: api.Warm}[r.Arg]
			if m.mode[r.Part] == 0 {
				m.mode[r.Part] = api.Cold
			}
		}
	}
	return m
}

func (m *model) anew(i, j int) {
	m.states[i][j], m.sleeps[i][j], m.deadline[i][j] = api.State{}, 0, -1
}

// slot is what a slot is, and its record.
func (m *model) slot(sector, n int) (int, api.Record) {
	at := sector*128 + n*16
	kind, r, _ := bulwark.Sort(m.f.Bytes()[at : at+16])
	return kind, r
}

// head is the generation and the restarts of a sector, if it is headed.
func (m *model) head(sector int) (api.Record, bool) {
	kind, r := m.slot(sector, 0)
	return r, kind == api.Good && r.Kind == api.Header
}

// active is which sector it is; -1: none.
func (m *model) active() int {
	a, first := m.head(0)
	b, second := m.head(1)
	switch {
	case first && second && b.Seq > a.Seq:
		return 1
	case first:
		return 0
	case second:
		return 1
	}
	return -1
}

func (m *model) faults(sector int) (list []api.Record) {
	for n := 1; n < 8; n++ {
		if kind, r := m.slot(sector, n); kind == api.Good && r.Kind == api.Fault {
			list = append(list, r)
		}
	}
	return list
}

func (m *model) log() []api.Record {
	active := m.active()
	if active < 0 {
		return nil
	}
	mine, _ := m.head(active)
	if other, headed := m.head(1 - active); headed && other.Seq+1 == mine.Seq {
		return append(m.faults(1-active), m.faults(active)...)
	}
	return m.faults(active)
}

func (m *model) restarts(part int) int {
	active := m.active()
	if active < 0 {
		return 0
	}
	h, _ := m.head(active)
	n := h.Arg >> (24 - 8*part) & 255
	for _, r := range m.faults(active) {
		if r.Part == part && (r.Arg == 4 || r.Arg == 5) {
			n++
		}
	}
	return min(n, 255)
}

func (m *model) lay(sector, n int, r api.Record) bool {
	b, at := bulwark.Slot(r), sector*128+n*16
	for i := 1; i < 16; i++ {
		if !m.f.Program(at+i, b[i]) {
			return false
		}
	}
	return m.f.Program(at, 0)
}

func (m *model) append(part, code, action int) bool {
	r := api.Record{Kind: api.Fault, Part: part, Code: code, Seq: 1, Arg: action}
	if log := m.log(); len(log) > 0 {
		greatest := 0
		for _, l := range log {
			if l.Seq > greatest {
				greatest = l.Seq
			}
		}
		r.Seq = (greatest + 1) % (1 << 32)
	}
	active := m.active()
	if active >= 0 {
		if last, _ := m.slot(active, 7); last == api.Blank {
			n := 7
			for {
				if kind, _ := m.slot(active, n-1); kind != api.Blank {
					return m.lay(active, n, r)
				}
				n--
			}
		}
	}
	to, h := 0, api.Record{Kind: api.Header, Seq: 1}
	if active >= 0 {
		old, _ := m.head(active)
		to, h.Seq = 1-active, (old.Seq+1)%(1<<32)
		for p := range 4 {
			h.Arg |= m.restarts(p) << (24 - 8*p)
		}
	}
	return m.f.Erase(to) && m.lay(to, 0, h) && m.lay(to, 1, r)
}

func (m *model) restart(i, mode int) {
	m.mode[i], m.began[i] = mode, m.t
	for j := range m.states[i] {
		m.anew(i, j)
	}
	if mode == api.Cold {
		clear(m.words[i])
	}
}

// fault is false if the power is lost.
func (m *model) fault(i, j, code int) bool {
	action := m.c.Parts[i].Actions[code]
	if (action == 4 || action == 5) && m.restarts(i) >= m.c.Parts[i].Limit {
		action = 6
	}
	if !m.append(i, code, action) {
		m.lost = true
		return false
	}
	switch action {
	case 2:
		m.states[i][j].Stopped = true
	case 3:
		m.anew(i, j)
	case 4:
		m.restart(i, api.Warm)
	case 5:
		m.restart(i, api.Cold)
	case 6:
		m.mode[i] = api.Idle
	case 7:
		for n := range m.mode {
			if m.mode[n] != api.Idle {
				m.restart(n, api.Cold)
			}
		}
	}
	return true
}

func (m *model) ready(i, j int) bool {
	s := m.states[i][j]
	if m.mode[i] == api.Idle || s.Stopped || m.t < m.sleeps[i][j] {
		return false
	}
	ins := m.c.Parts[i].Processes[j].Code[s.Next]
	return ins.Op != api.RECV || ins.Arg >= len(m.waiting) || m.c.Channels[ins.Arg].To != i || len(m.waiting[ins.Arg]) > 0
}

// ins does an instruction; the fault that it makes, or -1.
func (m *model) ins(i, j int) int {
	s, list := &m.states[i][j], m.c.Parts[i].Processes[j].Code
	op, a := list[s.Next].Op, list[s.Next].Arg
	s.Next++
	defer func() { s.Stopped = s.Stopped || s.Next >= len(list) }()
	if (op == api.STORE || op == api.LOAD || op == api.DIV) && a >= len(m.words[i]) {
		return 0
	}
	known := a < len(m.c.Channels)
	switch op {
	case api.ADD:
		if a > 127 {
			a -= 256
		}
		s.Acc += a
	case api.STORE:
		m.words[i][a] = s.Acc
	case api.LOAD:
		s.Acc = m.words[i][a]
	case api.JNZ:
		if s.Acc != 0 {
			s.Next = a
		}
	case api.WAIT:
		m.sleeps[i][j] = m.t + a
	case api.SEND:
		if !known || m.c.Channels[a].From != i {
			return 4
		}
		if len(m.waiting[a]) < m.c.Channels[a].Depth {
			m.waiting[a] = append(m.waiting[a], s.Acc)
		}
	case api.RECV:
		if !known || m.c.Channels[a].To != i {
			return 4
		}
		s.Acc, m.waiting[a] = m.waiting[a][0], m.waiting[a][1:]
	case api.RAISE:
		return 3
	case api.PET:
		m.began[i] = m.t
	case api.STOP:
		s.Stopped = true
	case api.DEADLINE:
		m.deadline[i][j] = m.t + a
		if a == 0 {
			m.deadline[i][j] = -1
		}
	case api.DIV:
		if m.words[i][a] == 0 {
			return 1
		}
		s.Acc /= m.words[i][a]
	case api.LOG:
		if !m.c.Parts[i].System {
			return 4
		}
		s.Acc = 0
		for _, r := range m.log() {
			if r.Part == a {
				s.Acc++
			}
		}
	}
	return -1
}

func (m *model) tick() bool {
	for i := range m.mode {
		for j := range m.states[i] {
			if m.mode[i] != api.Idle && !m.states[i][j].Stopped && m.deadline[i][j] >= 0 && m.t >= m.deadline[i][j] {
				m.deadline[i][j] = -1
				if !m.fault(i, j, 2) {
					return false
				}
			}
		}
	}
	for i := range m.mode {
		if m.c.Watch > 0 && m.mode[i] != api.Idle && m.t-m.began[i] >= m.c.Watch {
			m.began[i] = m.t
			if !m.fault(i, -1, 5) {
				return false
			}
		}
	}
	for _, w := range m.c.Windows {
		if at := m.t % m.c.Frame; at < w.First || at >= w.First+w.Many {
			continue
		}
		chosen := -1
		for j, p := range m.c.Parts[w.Part].Processes {
			if m.ready(w.Part, j) && (chosen < 0 || p.Priority > m.c.Parts[w.Part].Processes[chosen].Priority) {
				chosen = j
			}
		}
		if chosen >= 0 {
			if code := m.ins(w.Part, chosen); code >= 0 && !m.fault(w.Part, chosen, code) {
				return false
			}
		}
	}
	m.t++
	return true
}

// Tick is what the kernel's must answer.
func (m *model) Tick(n int) (int, api.Errno) {
	if n < 0 || n > 1000 {
		return 0, api.ErrArg
	}
	if m.lost {
		return 0, api.ErrPower
	}
	for done := range n {
		if !m.tick() {
			return done, api.ErrPower
		}
	}
	return n, api.OK
}

// Inject likewise.
func (m *model) Inject(i, j, code int) api.Errno {
	if i < 0 || i >= len(m.mode) || j < 0 || j >= len(m.states[i]) || code < 0 || code > 4 {
		return api.ErrArg
	}
	if m.lost || m.mode[i] != api.Idle && !m.fault(i, j, code) {
		return api.ErrPower
	}
	return api.OK
}

// roll is a random configuration, in which much happens; 7 is an action only if resets may be.
func roll(r *rand.Rand, resets bool) api.Config {
	c := api.Config{Frame: 1 + r.IntN(9), Watch: r.IntN(2) * r.IntN(30)}
	actions := []int{1, 1, 1, 1, 2, 3, 3, 4, 4, 5, 5, 6}
	if resets {
		actions = append(actions, 7)
	}
	for range 1 + r.IntN(4) {
		p := api.Partition{System: r.IntN(2) == 0, Words: 1 + r.IntN(3), Limit: r.IntN(10)}
		for code := range p.Actions {
			for p.Actions[code] == 0 || code == 5 && (p.Actions[code] == 2 || p.Actions[code] == 3) {
				p.Actions[code] = actions[r.IntN(len(actions))]
			}
		}
		for range 1 + r.IntN(2) {
			p.Processes = append(p.Processes, rollProcess(r))
		}
		c.Parts = append(c.Parts, p)
	}
	for at := 0; at < c.Frame && len(c.Windows) < 8; {
		many := 1 + r.IntN(min(3, c.Frame-at))
		c.Windows = append(c.Windows, api.Window{Part: r.IntN(len(c.Parts)), First: at, Many: many})
		at += many + r.IntN(2)
	}
	for range r.IntN(5) {
		if n := len(c.Parts); n > 1 {
			from := r.IntN(n)
			c.Channels = append(c.Channels, api.Channel{From: from, To: (from + 1 + r.IntN(n-1)) % n, Depth: 1 + r.IntN(4)})
		}
	}
	for part, p := range c.Parts {
		for _, q := range p.Processes {
			aim(r, c.Channels, part, q.Code)
		}
	}
	return c
}

// aim lets most of what a partition sends and receives go by a channel that it has, if there is one.
func aim(r *rand.Rand, channels []api.Channel, part int, list []api.Ins) {
	for at := range list {
		for n, h := range channels {
			if list[at].Op == api.SEND && h.From == part || list[at].Op == api.RECV && h.To == part {
				if r.IntN(4) > 0 {
					list[at].Arg = n
				}
			}
		}
	}
}

// rollProcess is a random process. Faults are seldom, so that programs come far; it often goes round.
func rollProcess(r *rand.Rand) api.Process {
	p := api.Process{Priority: r.IntN(4)}
	often := []int{api.NOP, api.ADD, api.ADD, api.STORE, api.LOAD, api.JNZ, api.WAIT, api.SEND, api.SEND, api.SEND, api.RECV, api.PET, api.DEADLINE, api.LOG}
	for n := 1 + r.IntN(12); n > 0; n-- {
		ins := api.Ins{Op: often[r.IntN(len(often))], Arg: r.IntN(5)}
		switch {
		case r.IntN(8) == 0:
			ins.Op = r.IntN(14)
		case ins.Op == api.DEADLINE:
			ins.Arg = r.IntN(40)
		}
		if r.IntN(20) == 0 {
			ins.Arg = r.IntN(256)
		}
		p.Code = append(p.Code, ins)
	}
	if r.IntN(3) > 0 {
		p.Code = append(p.Code, api.Ins{Op: api.ADD, Arg: 1 + r.IntN(255)}, api.Ins{Op: api.JNZ})
	}
	for at := range p.Code {
		if p.Code[at].Op == api.JNZ {
			p.Code[at].Arg = r.IntN(len(p.Code))
		}
	}
	return p
}

// rollFlash is the content of a flash: often nothing, else sectors with slots of all sorts.
func rollFlash(r *rand.Rand) []byte {
	var b []byte
	if r.IntN(3) == 0 {
		return nil
	}
	for range 2 {
		generation := []int{0, 1, 2, 3, lastNumber - 1, lastNumber}[r.IntN(6)]
		list := [][]byte{header(generation, r.IntN(4), r.IntN(4), r.IntN(9), 250+r.IntN(6))}
		if r.IntN(6) == 0 {
			list[0] = [][]byte{blankSlot, tornSlot, spoilt, fault(0, 1, 6)}[r.IntN(4)]
		}
		for range r.IntN(8) {
			one := fault(r.IntN(5), []int{r.IntN(9), lastNumber - r.IntN(2)}[r.IntN(8)/7], 1+r.IntN(7))
			if r.IntN(8) == 0 {
				one = [][]byte{blankSlot, tornSlot, spoilt, header(7)}[r.IntN(4)]
			}
			list = append(list, one)
		}
		b = append(b, slots(list...)...)
	}
	return b
}

// same asks that a kernel is as its model is.
func same(t *testing.T, k *bulwark.Kernel, m *model, f *api.Flash) {
	t.Helper()
	for part := range m.mode {
		v, e := k.Look(part)
		want := api.View{Mode: m.mode[part], Restarts: m.restarts(part), Words: m.words[part], Processes: m.states[part]}
		if e != api.OK || !reflect.DeepEqual(v, want) {
			t.Fatalf("P7: ahead of tick %d, partition %d is %+v, want %+v; of %+v", m.t, part, v, want, m.c)
		}
	}
	log := k.Log()
	if want := m.log(); len(log) != len(want) || len(log) > 0 && !reflect.DeepEqual(log, want) {
		t.Fatalf("P7: ahead of tick %d, the log is %+v, want %+v; of %+v", m.t, log, want, m.c)
	}
	if k.Now() != m.t {
		t.Fatalf("P7: Now: %d, want %d; of %+v", k.Now(), m.t, m.c)
	}
	if !bytes.Equal(f.Bytes(), m.f.Bytes()) || f.Done() != m.f.Done() {
		t.Fatalf("P6: ahead of tick %d, the flash is\n%v, want\n%v; of %+v", m.t, f.Bytes(), m.f.Bytes(), m.c)
	}
}

// life lets a kernel and its model do the same for a while; the power may be lost on the way.
func life(t *testing.T, r *rand.Rand, k *bulwark.Kernel, m *model, f *api.Flash) {
	t.Helper()
	if r.IntN(2) == 0 {
		after, residue := r.IntN(400), byte(r.IntN(256))
		f.Cut(after, residue)
		m.f.Cut(after, residue)
	}
	for range 6 + r.IntN(20) {
		if r.IntN(4) == 0 {
			part, process, code := r.IntN(5), r.IntN(3), r.IntN(6)
			if e, want := k.Inject(part, process, code), m.Inject(part, process, code); e != want {
				t.Fatalf("P6: Inject(%d, %d, %d): %d, want %d; of %+v", part, process, code, e, want, m.c)
			}
		}
		n := r.IntN(50)
		done, e := k.Tick(n)
		if wantDone, want := m.Tick(n); done != wantDone || e != want {
			t.Fatalf("P6: Tick(%d): %d, %d, want %d, %d; of %+v", n, done, e, wantDone, want, m.c)
		}
		same(t, k, m, f)
	}
}

func TestP5P6P7AsTheModel(t *testing.T) {
	for seed := range uint64(1000) {
		r := rand.New(rand.NewPCG(seed, 7))
		c := roll(r, true)
		content := rollFlash(r)
		f, other := api.NewFlash(content), api.NewFlash(content)
		for range 3 {
			k, m := booted(t, c, f), newModel(c, other)
			same(t, k, m, f)
			life(t, r, k, m, f)
			f.Restore()
			other.Restore()
		}
	}
}
