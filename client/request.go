package client

import "ferry/api"

// unnumbered is the number of a request that has just been read: which one it
// gets hangs on what was read of others at the same time.
const unnumbered = -1

// Request is one that was accepted. The numbers rise over all clients.
type Request struct {
	api.Message
	Number int
}

func isAccepted(m api.Message) bool {
	return m.What == api.Request && m.Err == api.Fine && m.Kind != api.Bye
}

// End is the offset behind the request's last byte.
func (r Request) End() int {
	return r.Offset + r.Length
}

// Cost is what a client pays for the request out of its deficit. A flush has
// no length, but is not free.
func (r Request) Cost() int {
	if r.Kind == api.Flush {
		return api.Sector
	}
	return r.Length
}

// Touches tells whether it matters which of both is done first. A flush has no
// byte in common with any other.
func (r Request) Touches(o Request) bool {
	if r.Kind == api.Read && o.Kind == api.Read {
		return false
	}
	return r.Offset < o.End() && o.Offset < r.End()
}
