package machine

import (
	"math"
	"testing"

	"bulwark/api"
)

// No program reaches the greatest and the least number in as many ticks as a test has, so they are set here.
func TestP6NumbersAtTheirEdges(t *testing.T) {
	for _, c := range []struct {
		name      string
		ins       api.Ins
		acc, word int
		want      int
	}{
		{"ADD wraps round", api.Ins{Op: api.ADD, Arg: 1}, math.MaxInt64, 0, math.MinInt64},
		{"ADD of less than nothing wraps round", api.Ins{Op: api.ADD, Arg: 128}, math.MinInt64, 0, math.MaxInt64 - 127},
		{"DIV of the least number by -1", api.Ins{Op: api.DIV}, math.MinInt64, -1, math.MinInt64},
		{"DIV of the least number by 1", api.Ins{Op: api.DIV}, math.MinInt64, 1, math.MinInt64},
		{"DIV of the greatest number by -1", api.Ins{Op: api.DIV}, math.MaxInt64, -1, -math.MaxInt64},
		{"DIV by the least number", api.Ins{Op: api.DIV}, math.MaxInt64, math.MinInt64, 0},
		{"LOAD of the least number", api.Ins{Op: api.LOAD}, 0, math.MinInt64, math.MinInt64},
	} {
		m := Start(api.Config{Frame: 1, Parts: []api.Partition{{Words: 1, Processes: []api.Process{{Code: []api.Ins{c.ins}}}}}}, api.NewFlash(nil))
		p := m.partitions.At(0)
		q := p.processes.At(0)
		q.Acc, *p.words.At(0) = c.acc, c.word
		if !m.turn(p) || q.Acc != c.want || len(m.Log()) != 0 {
			t.Errorf("P6: %s: %d (%v), want %d", c.name, q.Acc, m.Log(), c.want)
		}
	}
}
