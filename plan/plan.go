// Package plan reads configurations.
package plan

import "bulwark/api"

// mark is the first byte of every configuration.
const mark = 72

const (
	maxOp       = api.LOG
	maxArgument = 255
	watchCode   = api.Codes - 1
)

// Parse is a configuration, or the first thing that is wrong in it, and its place.
func Parse(config []byte) (api.Config, int, api.Errno) {
	r := &reader{bytes: config}
	c := r.config()
	r.check()
	r.end()
	if r.fault != api.OK {
		return api.Config{}, r.at, r.fault
	}
	return c, 0, api.OK
}

// config takes all but the check.
func (r *reader) config() api.Config {
	r.number(mark, mark)
	parts := r.number(1, api.MaxPartitions)
	c := api.Config{}
	c.Frame = r.number(1, api.MaxFrame)
	c.Watch = r.number(0, api.MaxWatch)
	c.Parts = list(parts, r.partition)
	c.Windows = r.windows(parts, c.Frame)
	c.Channels = list(r.number(0, api.MaxChannels), func() api.Channel { return r.channel(parts) })
	return c
}

// list takes so many things of a kind, into memory of their own.
func list[T any](many int, take func() T) []T {
	var things []T
	for range many {
		things = append(things, take())
	}
	return things
}

// partition takes a partition, with its processes.
func (r *reader) partition() api.Partition {
	p := api.Partition{}
	p.System = r.number(0, 1) == 1
	p.Words = r.number(1, api.MaxWords)
	p.Limit = r.number(0, api.MaxLimit)
	for code := range p.Actions {
		p.Actions[code] = r.action(code)
	}
	p.Processes = list(r.number(1, api.MaxProcesses), r.process)
	return p
}

// action takes the action for a code. The watch is of the partition, not of a
// process, so there is no process to be stopped or begun anew.
func (r *reader) action(code int) int {
	if code == watchCode {
		return r.number(api.Ignore, api.Resetly, api.Stop, api.Again)
	}
	return r.number(api.Ignore, api.Resetly)
}

// process takes a process, with its instructions.
func (r *reader) process() api.Process {
	p := api.Process{}
	p.Priority = r.number(0, api.MaxPriority)
	many := r.number(1, api.MaxCode)
	p.Code = list(many, func() api.Ins { return r.instruction(many) })
	return p
}

// instruction takes an instruction of a process that has so many.
func (r *reader) instruction(many int) api.Ins {
	op := r.number(api.NOP, maxOp)
	if op == api.JNZ {
		return api.Ins{Op: op, Arg: r.number(0, many-1)}
	}
	return api.Ins{Op: op, Arg: r.number(0, maxArgument)}
}

// windows takes all windows: each begins where the one ahead ends, or later.
func (r *reader) windows(parts, frame int) []api.Window {
	end := 0
	return list(r.number(1, api.MaxWindows), func() api.Window {
		w := api.Window{}
		w.Part = r.number(0, parts-1)
		w.First = r.number(end, frame-1)
		w.Many = r.number(1, frame-w.First)
		end = w.First + w.Many
		return w
	})
}

// channel takes a channel between two of so many partitions.
func (r *reader) channel(parts int) api.Channel {
	c := api.Channel{}
	c.From = r.number(0, parts-1)
	c.To = r.number(0, parts-1, c.From)
	c.Depth = r.number(1, api.MaxDepth)
	return c
}
