package client

import (
	"strings"
	"testing"

	"ferry/api"
)

var config = api.Config{Size: 64, Clients: 2, Queue: 2, Max: 8, Quantum: 8, Rate: 2, Burst: 4, Workers: 1, Out: 32}

func head(kind, cookie, length int) string {
	return "Q" + string([]byte{byte(kind), 0, byte(cookie), byte(cookie >> 8), 0, 0, byte(length), 0})
}

func bad(cookie int) string { return head(9, cookie, 0) }

// begun is a client in phase 2 that has taken what it has heard so far.
func begun(t *testing.T, c api.Config) *Client {
	t.Helper()
	x := New(c, 3, 1)
	hears(t, x, "FERRYag", "YG")
	return x
}

func hears(t *testing.T, x *Client, s, want string) {
	t.Helper()
	if e := x.Send(s); e != api.OK {
		t.Errorf("P6: Send(%.40q) = %d", s, e)
	}
	x.Read()
	if got, e := x.Take(api.MaxOut); got != want || e != api.OK {
		t.Errorf("P6: behind %.40q Take = %q, %d, want %q", s, got, e, want)
	}
}

func stands(t *testing.T, x *Client, want api.Status) {
	t.Helper()
	if got := x.Status(); got != want {
		t.Errorf("P9: Status = %+v, want %+v", got, want)
	}
}

func TestQueueStopsReading(t *testing.T) {
	for most := 1; most <= api.MaxQueue; most++ {
		c := config
		c.Queue = most
		x := begun(t, c)
		s := ""
		for cookie := range most {
			s += head(api.Flush, cookie, 0)
		}
		hears(t, x, s+"rubbish, and more", "")
		stands(t, x, api.Status{Phase: 2, Unread: 17, Queued: most, Tokens: 4})
		x.Read()
		stands(t, x, api.Status{Phase: 2, Unread: 17, Queued: most, Tokens: 4})
		x.queue = x.queue[1:]
		x.Read()
		stands(t, x, api.Status{Phase: 4, Tokens: 4})
	}
}

// TestReadingGoesOn: where the queue has room again, the next message is the one behind the last.
func TestReadingGoesOn(t *testing.T) {
	x := begun(t, config)
	s := ""
	for cookie := range 5 {
		s += bad(100+cookie) + head(api.Flush, cookie, 0)
	}
	hears(t, x, s, "R\x16\x64\x00R\x16\x65\x00")
	for cookie := 2; cookie < 5; cookie++ {
		if first, ok := x.First(); !ok || first.Cookie != cookie-2 || len(x.queue) != 2 {
			t.Errorf("%d requests wait, the first is %+v", len(x.queue), first)
		}
		x.queue = x.queue[1:]
		hears(t, x, "", "R\x16"+string([]byte{byte(100 + cookie)})+"\x00")
	}
	stands(t, x, api.Status{Phase: 2, Queued: 2, Tokens: 4})
}

// TestRoomForTheFirst: replies that are given at once leave the room for the first request's reply alone.
func TestRoomForTheFirst(t *testing.T) {
	for _, first := range []struct{ kind, length, reply int }{{api.Flush, 0, 4}, {api.Zero, 8, 4}, {api.Read, 4, 8}, {api.Read, 8, 12}} {
		for out := 12; out <= 60; out++ {
			c := config
			c.Out = out
			x := begun(t, c)
			if e := x.Send(head(first.kind, 1, first.length) + strings.Repeat(bad(2), 20)); e != api.OK {
				t.Fatalf("Send = %d", e)
			}
			x.Read()
			read := 0
			for read < 20 && 4*read+6+first.reply <= out {
				read++
			}
			stands(t, x, api.Status{Phase: 2, Unread: 9 * (20 - read), Queued: 1, Tokens: 4, Out: 4 * read})
			if 4*read+first.reply > out {
				t.Errorf("Out %d: no room for the reply to %+v behind %d others", out, first, read)
			}
		}
	}
}

func TestCookieInUseCloses(t *testing.T) {
	x := begun(t, config)
	hears(t, x, head(api.Flush, 7, 0), "")
	hears(t, x, bad(8)+head(api.Flush, 7, 0)[:8], "R\x16\x08\x00")
	stands(t, x, api.Status{Phase: 2, Unread: 8, Queued: 1, Tokens: 4})
	hears(t, x, "\x00", "")
	stands(t, x, api.Status{Phase: 4, Tokens: 4})
}

func TestNumbers(t *testing.T) {
	c := config
	c.Queue = 5
	x := begun(t, c)
	if first, ok := x.First(); ok || first != (Request{}) {
		t.Errorf("First of none = %+v, %t", first, ok)
	}
	if next := x.NumberRequests(10); next != 10 {
		t.Errorf("NumberRequests of none = %d, want 10", next)
	}
	hears(t, x, head(api.Flush, 1, 0)+head(api.Flush, 2, 0), "")
	if next := x.NumberRequests(10); next != 12 {
		t.Errorf("NumberRequests of two = %d, want 12", next)
	}
	hears(t, x, bad(3)+head(api.Flush, 3, 0), "R\x16\x03\x00")
	if next := x.NumberRequests(0); next != 1 {
		t.Errorf("NumberRequests of one more = %d, want 1", next)
	}
	if x.queue[0].Number != 10 || x.queue[1].Number != 11 || x.queue[2].Number != 0 {
		t.Errorf("numbers: %+v", x.queue)
	}
}

// TestClosed: who is closed keeps nothing, is told nothing and reads nothing, however often it is closed.
func TestClosed(t *testing.T) {
	x := begun(t, config)
	x.Send(bad(1) + head(api.Read, 2, 8) + "more")
	x.Read()
	stands(t, x, api.Status{Phase: 2, Unread: 4, Queued: 1, Tokens: 4, Out: 4})
	for range 2 {
		x.Close()
		stands(t, x, api.Status{Phase: 4, Tokens: 4})
		if e := x.Send(""); e != api.ErrClient {
			t.Errorf("P6: Send to one that is closed = %d, want ErrClient", e)
		}
		if e := x.Send(strings.Repeat("x", api.MaxSocket+1)); e != api.ErrClient {
			t.Errorf("P6: Send to one that is closed = %d, want ErrClient", e)
		}
		if s, e := x.Take(9); s != "" || e != api.OK {
			t.Errorf("P6: Take of one that is closed = %q, %d", s, e)
		}
		if s, e := x.Take(-1); s != "" || e != api.ErrArg {
			t.Errorf("P6: Take(-1) of one that is closed = %q, %d", s, e)
		}
		x.Read()
		stands(t, x, api.Status{Phase: 4, Tokens: 4})
	}
}

// TestChannelIsAsked: whoever reads asks the channel ahead of the first message, whatever else lies there.
func TestChannelIsAsked(t *testing.T) {
	x := New(config, 0, 1)
	x.Send("FERRYa")
	close(x.closed)
	x.Read()
	if x.sent != "FERRYa" || len(x.outbox) != 0 {
		t.Errorf("P7: read of one that is closed: %q is left, %q is heard", x.sent, x.outbox)
	}
}

// TestWhoIsGone: one that said BYE stays for its queue and for its outbox.
func TestWhoIsGone(t *testing.T) {
	x := begun(t, config)
	x.Send(head(api.Flush, 1, 0) + bad(2) + head(api.Bye, 3, 0))
	if x.IsGone() {
		t.Error("P7: gone before it was read")
	}
	x.Read()
	stands(t, x, api.Status{Phase: 3, Queued: 1, Tokens: 4, Out: 4})
	if x.IsGone() {
		t.Error("P7: gone with a queue and an outbox")
	}
	queue := x.queue
	x.queue = nil
	if x.IsGone() {
		t.Error("P7: gone with an outbox")
	}
	x.queue = queue
	x.Take(4)
	if x.IsGone() {
		t.Error("P7: gone with a queue")
	}
	x.queue = nil
	if !x.IsGone() {
		t.Error("P7: not gone, though it has nothing any more")
	}
	for phase, s := range []string{"", "FERRYa", "FERRYag"} {
		y := New(config, 3, 1)
		y.Send(s)
		y.Read()
		y.Take(9)
		if y.phase() != phase || y.IsGone() {
			t.Errorf("P7: phase %d, gone %t, want %d, false", y.phase(), y.IsGone(), phase)
		}
		y.Close()
		if !y.IsGone() {
			t.Errorf("P7: not gone, though closed in phase %d", phase)
		}
	}
}

func TestTokens(t *testing.T) {
	for burst := 1; burst <= api.MaxBurst; burst++ {
		for rate := 1; rate <= api.MaxRate; rate++ {
			c := config
			c.Burst, c.Rate = burst, rate
			x := New(c, 0, 1)
			stands(t, x, api.Status{Tokens: burst})
			x.tokens = 0
			for ticks := 1; ticks <= 40; ticks++ {
				x.Earn()
				stands(t, x, api.Status{Tokens: min(burst, ticks*rate)})
			}
		}
	}
}
