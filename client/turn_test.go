package client

import (
	"testing"

	"ferry/api"
)

func request(kind, offset, length int) Request {
	return Request{api.Message{What: api.Request, Kind: kind, Offset: offset, Length: length}, 0}
}

func TestCost(t *testing.T) {
	for kind := range 5 {
		for length := 4; length <= 32; length += 4 {
			want := length
			if kind == api.Flush {
				length, want = 0, 4
			}
			if got := request(kind, 8, length).Cost(); got != want {
				t.Errorf("kind %d, length %d: Cost = %d, want %d", kind, length, got, want)
			}
			if kind == api.Flush {
				break
			}
		}
	}
}

// TestTouches: held against the bytes themselves, both ways round.
func TestTouches(t *testing.T) {
	common := func(a, b Request) bool {
		for i := a.Offset; i < a.Offset+a.Length; i++ {
			if i >= b.Offset && i < b.Offset+b.Length {
				return true
			}
		}
		return false
	}
	var all []Request
	for kind := range 5 {
		if kind == api.Flush {
			all = append(all, request(kind, 0, 0))
			continue
		}
		for offset := 0; offset <= 16; offset += 4 {
			for length := 4; length <= 12; length += 4 {
				all = append(all, request(kind, offset, length))
			}
		}
	}
	for _, a := range all {
		for _, b := range all {
			want := common(a, b) && a.Kind != api.Flush && b.Kind != api.Flush && (a.Kind != api.Read || b.Kind != api.Read)
			if got := a.Touches(b); got != want {
				t.Errorf("%+v touches %+v: %t, want %t", a, b, got, want)
			}
		}
	}
}

// TestShare: an opened turn is worth the weight times Quantum, on top of what is kept.
func TestShare(t *testing.T) {
	for weight := 1; weight <= api.MaxWeight; weight++ {
		x := New(config, 0, weight)
		for turns := 1; turns <= 3; turns++ {
			x.OpenTurn()
			stands(t, x, api.Status{Tokens: 4, Deficit: turns * weight * 8})
		}
		for cost := 4; cost <= 120; cost += 4 {
			if got := x.CanPay(request(api.Read, 0, cost)); got != (cost <= 24*weight) {
				t.Errorf("weight %d: CanPay of %d bytes = %t", weight, cost, got)
			}
		}
		x.LoseShare()
		stands(t, x, api.Status{Tokens: 4})
		if x.CanPay(request(api.Flush, 0, 0)) {
			t.Error("CanPay of a flush with nothing")
		}
	}
}

func wantReady(t *testing.T, x *Client, cookie int, want bool) {
	t.Helper()
	if first, ok := x.Ready(); ok != want || ok && first.Cookie != cookie {
		t.Errorf("Ready = %+v, %t, want cookie %d, %t", first, ok, cookie, want)
	}
}

// TestDispatchAndAnswer: what a request takes when it goes off, and what it gives back when it is done.
func TestDispatchAndAnswer(t *testing.T) {
	x := begun(t, config)
	wantReady(t, x, 0, false)
	hears(t, x, head(api.Read, 1, 8)+head(api.Flush, 2, 0), "")
	wantReady(t, x, 1, true)
	x.OpenTurn()
	first := x.Dispatch()
	stands(t, x, api.Status{Phase: 2, Queued: 1, Flying: 1, Tokens: 3, Served: 8})
	wantReady(t, x, 2, true)
	second := x.Dispatch()
	stands(t, x, api.Status{Phase: 2, Flying: 2, Tokens: 2, Deficit: -4, Served: 12})
	if first.Cookie != 1 || second.Cookie != 2 {
		t.Errorf("Dispatch = %+v, %+v", first, second)
	}
	wantReady(t, x, 0, false)
	x.Answer(second, api.Failed, "")
	stands(t, x, api.Status{Phase: 2, Flying: 1, Tokens: 2, Deficit: -4, Out: 4, Served: 12})
	x.Answer(first, api.Fine, "abcdefgh")
	hears(t, x, "", "R\x05\x02\x00R\x00\x01\x00abcdefgh")
	hears(t, x, head(api.Flush, 1, 0)+head(api.Flush, 2, 0), "")
	stands(t, x, api.Status{Phase: 2, Queued: 2, Tokens: 2, Deficit: -4, Served: 12})
}

// TestReadyToTheByte: the outbox, what is in flight, and the reply itself.
func TestReadyToTheByte(t *testing.T) {
	for out := 12; out <= 40; out++ {
		c := config
		c.Out, c.Burst = 256, 9
		x := begun(t, c)
		x.Send(bad(9) + head(api.Read, 1, 4) + head(api.Read, 2, 8))
		x.Read()
		x.Dispatch()
		x.config.Out = out
		wantReady(t, x, 2, 4+8+12 <= out)
		x.tokens = 0
		wantReady(t, x, 2, false)
	}
}

// TestRoomForWhatFlies: no reply that is given at once takes the room of one to come.
func TestRoomForWhatFlies(t *testing.T) {
	c := config
	c.Out = 21
	x := begun(t, c)
	hears(t, x, head(api.Read, 1, 8), "")
	r := x.Dispatch()
	x.Send(bad(2) + bad(3))
	x.Read()
	stands(t, x, api.Status{Phase: 2, Unread: 9, Flying: 1, Tokens: 3, Deficit: -8, Out: 4, Served: 8})
	x.Answer(r, api.Fine, "abcdefgh")
	hears(t, x, "", "R\x16\x02\x00R\x00\x01\x00abcdefgh")
	hears(t, x, "", "R\x16\x03\x00")
}

// TestCookieInFlight: it is in use until its request is answered.
func TestCookieInFlight(t *testing.T) {
	x := begun(t, config)
	hears(t, x, head(api.Flush, 7, 0), "")
	r := x.Dispatch()
	x.Answer(r, api.Fine, "")
	hears(t, x, head(api.Flush, 7, 0), "R\x00\x07\x00")
	x.Dispatch()
	hears(t, x, head(api.Flush, 7, 0), "")
	stands(t, x, api.Status{Phase: 4, Flying: 1, Tokens: 2, Deficit: -8, Served: 8})
}

// TestGoneBehindFlight: what is in flight keeps one that is leaving or closed.
func TestGoneBehindFlight(t *testing.T) {
	x := begun(t, config)
	hears(t, x, head(api.Flush, 1, 0)+head(api.Bye, 2, 0), "")
	r := x.Dispatch()
	if x.IsGone() {
		t.Error("P7: gone with a request in flight")
	}
	x.Answer(r, api.Fine, "")
	if x.IsGone() {
		t.Error("P7: gone with a reply to take")
	}
	x.Take(4)
	if !x.IsGone() {
		t.Error("P7: not gone, though it has nothing any more")
	}
	y := begun(t, config)
	hears(t, y, head(api.Flush, 1, 0)+head(api.Flush, 2, 0), "")
	r = y.Dispatch()
	y.Close()
	stands(t, y, api.Status{Phase: 4, Flying: 1, Tokens: 3, Deficit: -4, Served: 4})
	if y.IsGone() {
		t.Error("P7: gone with a request in flight")
	}
	y.Answer(r, api.Fine, "")
	stands(t, y, api.Status{Phase: 4, Tokens: 3, Deficit: -4, Served: 4})
	if !y.IsGone() {
		t.Error("P7: not gone, though closed, with nothing in flight")
	}
}
