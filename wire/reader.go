// Package wire reads what a client says out of its bytes, and makes the bytes
// that it hears.
package wire

import (
	"iter"

	"ferry/api"
)

// The phases of a client.
const (
	PhaseGreeting = iota
	PhaseOptions
	PhaseRequests
	PhaseLeaving
	PhaseClosed
)

// Reader reads one client's bytes. It keeps what decides how the next message
// is read: the client's phase, and the cookies that it may not use again.
type Reader struct {
	size, max int
	phase     int
	used      map[int]struct{}
}

// NewReader makes a reader for a client that is in that phase and has no
// cookie in use. The configuration must be one.
func NewReader(c api.Config, phase int) *Reader {
	return &Reader{size: c.Size, max: c.Max, phase: phase, used: map[int]struct{}{}}
}

// Phase is the one in which the next message will be read.
func (r *Reader) Phase() int {
	return r.phase
}

// Messages goes through the whole messages that s begins with; beside each
// stands how many bytes it takes. What was not handed out is not read: whoever
// leaves early may go on later, behind the bytes of the last message.
func (r *Reader) Messages(s string) iter.Seq2[api.Message, int] {
	return func(yield func(api.Message, int) bool) {
		for {
			m, n := r.next(s)
			if n == 0 {
				return
			}
			r.follow(m)
			s = s[n:]
			if !yield(m, n) {
				return
			}
		}
	}
}

// breach is what a message that must not be is given up with: how many bytes
// go up to the one that tells.
type breach struct{ bytes int }

// next is the client's door: a breach becomes a Closing here, so that nobody
// further out has to know of it. No bytes are taken where no message is whole.
func (r *Reader) next(s string) (m api.Message, n int) {
	defer func() {
		if given := recover(); given != nil {
			m, n = closing(given)
		}
	}()
	switch r.phase {
	case PhaseGreeting:
		return greeting(s)
	case PhaseOptions:
		return option(s)
	case PhaseRequests:
		return r.request(s)
	}
	return api.Message{}, 0
}

// closing lets every other panic go on: a mistake of the program must not look
// like a mistake of the client.
func closing(given any) (api.Message, int) {
	b, ok := given.(breach)
	if !ok {
		panic(given)
	}
	return api.Message{What: api.Closing}, b.bytes
}

func (r *Reader) follow(m api.Message) {
	switch m.What {
	case api.Greeting:
		if m.Name == wanted {
			r.phase = PhaseOptions
		}
	case api.Option:
		if m.Name == goOn {
			r.phase = PhaseRequests
		}
	case api.Request:
		r.followRequest(m)
	case api.Closing:
		r.phase = PhaseClosed
	}
}

// followRequest leaves the cookie of a bad request free: it is answered at
// once, so that the client may use it again.
func (r *Reader) followRequest(m api.Message) {
	switch {
	case m.Err != api.Fine:
	case m.Kind == api.Bye:
		r.phase = PhaseLeaving
	default:
		r.used[m.Cookie] = struct{}{}
	}
}

// Free tells that the request of that cookie is answered: the client may use
// it again.
func (r *Reader) Free(cookie int) {
	delete(r.used, cookie)
}
