// Package client is one client: what it has sent, what it has asked for, and
// what it has to hear.
package client

import (
	"slices"
	"strings"

	"ferry/api"
	"ferry/wire"
)

// Client is one that has a seat.
type Client struct {
	number   int
	weight   int
	config   api.Config
	reader   *wire.Reader
	sent     string // what is not read yet
	queue    []Request
	flying   int // how many requests are in flight
	promised int // how many bytes their replies without error take
	outbox   []byte
	tokens   int
	deficit  int
	served   int
	closed   chan struct{} // nothing is sent on it: that it is closed tells that the client is
}

// New makes the client of that number and weight, in phase 0. The
// configuration must be one.
func New(c api.Config, number, weight int) *Client {
	return &Client{
		number: number,
		weight: weight,
		config: c,
		reader: wire.NewReader(c, wire.PhaseGreeting),
		tokens: c.Burst,
		closed: make(chan struct{}),
	}
}

// Number is the one under which others know the client.
func (c *Client) Number() int {
	return c.number
}

// Send adds to what the client has sent. A copy is kept: the caller's text may
// be a piece of a far longer one.
func (c *Client) Send(s string) api.Errno {
	if c.isClosed() {
		return api.ErrClient
	}
	if len(s) > api.MaxSocket-len(c.sent) {
		return api.ErrLong
	}
	c.sent += strings.Clone(s)
	return api.OK
}

// Take gives at most n bytes out of the outbox.
func (c *Client) Take(n int) (string, api.Errno) {
	if n < 0 {
		return "", api.ErrArg
	}
	n = min(n, len(c.outbox))
	s := string(c.outbox[:n])
	c.outbox = slices.Delete(c.outbox, 0, n)
	return s, api.OK
}

// Close may be called again: who went away may have been closed before. What
// is in flight stays there: it will be done.
func (c *Client) Close() {
	if c.isClosed() {
		return
	}
	close(c.closed)
	c.sent, c.queue, c.outbox = "", nil, nil
}

// isClosed is asked ahead of whatever is done for the client.
func (c *Client) isClosed() bool {
	select {
	case <-c.closed:
		return true
	default:
		return false
	}
}

// IsGone tells whether nobody need know of the client any more. One that is
// closed has no queue and no outbox: only what is in flight keeps it.
func (c *Client) IsGone() bool {
	if c.phase() < wire.PhaseLeaving {
		return false
	}
	return len(c.queue) == 0 && c.flying == 0 && len(c.outbox) == 0
}

// Status tells how the client stands.
func (c *Client) Status() api.Status {
	return api.Status{
		Phase:   c.phase(),
		Unread:  len(c.sent),
		Queued:  len(c.queue),
		Flying:  c.flying,
		Tokens:  c.tokens,
		Deficit: c.deficit,
		Out:     len(c.outbox),
		Served:  c.served,
	}
}

// phase asks the channel first: who goes away is closed whatever the reader
// has read.
func (c *Client) phase() int {
	if c.isClosed() {
		return wire.PhaseClosed
	}
	return c.reader.Phase()
}
