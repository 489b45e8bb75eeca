package client

import (
	"ferry/api"
	"ferry/wire"
)

// Read reads messages from what the client has sent, as long as there is room
// for more. It touches this client alone, so that several may be read side by
// side.
func (c *Client) Read() {
	if !c.mayRead() {
		return
	}
	for m, n := range c.reader.Messages(c.sent) {
		c.sent = c.sent[n:]
		c.hear(m)
		if !c.mayRead() {
			return
		}
	}
}

// mayRead is asked ahead of each message.
func (c *Client) mayRead() bool {
	return !c.isClosed() && len(c.queue) < c.config.Queue && c.hasRoomToAnswer()
}

// hasRoomToAnswer leaves the room alone for which the first request waits: no
// reply that is given at once may take it.
func (c *Client) hasRoomToAnswer() bool {
	n := wire.MostAtOnce
	if first, ok := c.First(); ok {
		n += wire.ReplyBytes(first.Message)
	}
	return c.hasRoom(n)
}

// hasRoom counts the replies to come as if they were in the outbox already:
// when they come, they must find their room.
func (c *Client) hasRoom(n int) bool {
	return len(c.outbox)+c.promised+n <= c.config.Out
}

// First is the request that has waited longest, and whether there is one.
func (c *Client) First() (Request, bool) {
	if len(c.queue) == 0 {
		return Request{}, false
	}
	return c.queue[0], true
}

func (c *Client) hear(m api.Message) {
	c.outbox = append(c.outbox, wire.Answer(c.config, m)...)
	switch {
	case m.What == api.Closing:
		c.Close()
	case isAccepted(m):
		c.queue = append(c.queue, Request{m, unnumbered})
	}
}

// NumberRequests gives numbers, from next on, to the requests that have none
// yet, and tells the one that comes behind them.
func (c *Client) NumberRequests(next int) int {
	for i := range c.queue {
		if c.queue[i].Number == unnumbered {
			c.queue[i].Number = next
			next++
		}
	}
	return next
}
