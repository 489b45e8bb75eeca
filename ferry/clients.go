package ferry

import (
	"iter"
	"slices"

	"ferry/api"
	"ferry/client"
)

// Connect lets a client in (P5).
func (x *Ferry) Connect(weight int) (int, api.Errno) {
	if x.stopped {
		return 0, api.ErrStopped
	}
	if !within(weight, 1, api.MaxWeight) {
		return 0, api.ErrArg
	}
	free := slices.Index(x.seats, nil)
	if free < 0 {
		return 0, api.ErrFull
	}
	u := x.came
	x.seats[free] = client.New(x.config, u, weight)
	x.came++
	return u, api.OK
}

// Send hands over bytes that a client sends (P6).
func (x *Ferry) Send(u int, s string) api.Errno {
	c := x.find(u)
	if c == nil {
		return api.ErrClient
	}
	return c.Send(s)
}

// Take gives a client bytes from its outbox (P6).
func (x *Ferry) Take(u, n int) (string, api.Errno) {
	c := x.find(u)
	if c == nil {
		return "", api.ErrClient
	}
	s, e := c.Take(n)
	x.letGo()
	return s, e
}

// Hang tells that a client has gone away (P7).
func (x *Ferry) Hang(u int) api.Errno {
	c := x.find(u)
	if c == nil {
		return api.ErrClient
	}
	c.Close()
	x.letGo()
	return api.OK
}

// Client tells how a client stands (P9).
func (x *Ferry) Client(u int) (api.Status, api.Errno) {
	c := x.find(u)
	if c == nil {
		return api.Status{}, api.ErrClient
	}
	return c.Status(), api.OK
}

// find goes through the seats: whoever has gone is not remembered anywhere.
func (x *Ferry) find(u int) *client.Client {
	for c := range x.seated() {
		if c.Number() == u {
			return c
		}
	}
	return nil
}

// seated goes through those who have a seat, in the order of the seats.
func (x *Ferry) seated() iter.Seq[*client.Client] {
	return func(yield func(*client.Client) bool) {
		for _, c := range x.seats {
			if c != nil && !yield(c) {
				return
			}
		}
	}
}

// letGo comes last in each call that may make a client gone: until the call's
// end its seat is taken. Who sits there next must not find an open turn: it
// would go without a share.
func (x *Ferry) letGo() {
	for i, c := range x.seats {
		if c == nil || !c.IsGone() {
			continue
		}
		x.seats[i] = nil
		if x.turn.seat == i {
			x.turn.open = false
		}
	}
}
