package machine

import (
	"cmp"
	"slices"

	"bulwark/api"
	"bulwark/fixed"
)

// partition is a partition, as it is.
type partition struct {
	number    int
	system    bool
	limit     int
	actions   [api.Codes]int
	mode      int
	words     fixed.List[int]
	processes fixed.List[process]
	turns     fixed.List[int]
	watched   int // the tick at which its watch began
}

// start is a partition at the start, in a mode.
func start(number int, p api.Partition, mode int) partition {
	return partition{
		number:  number,
		system:  p.System,
		limit:   p.Limit,
		actions: p.Actions,
		mode:    mode,
		words:   fixed.Make(p.Words, func(int) int { return 0 }),
		processes: fixed.Make(len(p.Processes), func(at int) process {
			return process{code: p.Processes[at].Code}
		}),
		turns: turns(p.Processes),
	}
}

// turns is the places of processes, those of a greater priority first.
func turns(processes []api.Process) fixed.List[int] {
	places := make([]int, len(processes))
	for at := range places {
		places[at] = at
	}
	slices.SortStableFunc(places, func(a, b int) int {
		return cmp.Compare(processes[b].Priority, processes[a].Priority)
	})
	return fixed.Make(len(places), func(at int) int { return places[at] })
}

// runs tells whether the partition is not idle.
func (p *partition) runs() bool { return p.mode != api.Idle }

// restart begins all processes anew, in a mode; the words outlive a warm restart alone.
func (p *partition) restart(mode, now int) {
	p.mode = mode
	p.watched = now
	for _, q := range p.processes.All() {
		q.begin()
	}
	if mode == api.Cold {
		p.words.Fill(0)
	}
}

// view is what is told of the partition.
func (p *partition) view(restarts int) api.View {
	states := fixed.Make(p.processes.Len(), func(at int) api.State { return p.processes.At(at).State })
	return api.View{Mode: p.mode, Restarts: restarts, Words: p.words.Copy(), Processes: states.Copy()}
}
