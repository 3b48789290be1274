package machine

import "bulwark/api"

// channel is numbers on their way from one partition to another.
type channel struct {
	from, to int
	numbers  chan int
}

// open is an empty channel.
func open(c api.Channel) channel {
	return channel{from: c.From, to: c.To, numbers: make(chan int, c.Depth)}
}

// send lets a number go into the channel, if there is room in it; else it is not sent.
func (c channel) send(n int) {
	select {
	case c.numbers <- n:
	default:
	}
}

// receive takes the number that waits longest, and tells whether one did.
func (c channel) receive() (int, bool) {
	select {
	case n := <-c.numbers:
		return n, true
	default:
		return 0, false
	}
}
