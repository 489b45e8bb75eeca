package client

import (
	"slices"

	"ferry/wire"
)

// Earn gives the client the tokens of one tick.
func (c *Client) Earn() {
	c.tokens = min(c.tokens+c.config.Rate, c.config.Burst)
}

// OpenTurn gives the client its share of the disk for one turn, beside what it
// has kept of earlier ones.
func (c *Client) OpenTurn() {
	c.deficit += c.weight * c.config.Quantum
}

// LoseShare leaves the client nothing: who has no use for a share must not
// heap them up.
func (c *Client) LoseShare() {
	c.deficit = 0
}

// CanPay tells whether the client's share is enough for r.
func (c *Client) CanPay(r Request) bool {
	return r.Cost() <= c.deficit
}

// Ready is the first request, and whether it is there and ready.
func (c *Client) Ready() (Request, bool) {
	first, ok := c.First()
	return first, ok && c.tokens > 0 && c.hasRoom(wire.ReplyBytes(first.Message))
}

// Dispatch moves the first request, which must be there, from the queue into
// flight. It is paid for, and room is kept for its reply.
func (c *Client) Dispatch() Request {
	r := c.queue[0]
	c.queue = slices.Delete(c.queue, 0, 1)
	c.tokens--
	c.deficit -= r.Cost()
	c.served += r.Cost()
	c.flying++
	c.promised += wire.ReplyBytes(r.Message)
	return r
}

// Answer tells the client that r, which was in flight, is done. A closed one is
// told nothing.
func (c *Client) Answer(r Request, err int, data string) {
	c.flying--
	c.promised -= wire.ReplyBytes(r.Message)
	if c.isClosed() {
		return
	}
	c.outbox = append(c.outbox, wire.Reply(err, r.Cookie, data)...)
	c.reader.Free(r.Cookie)
}
