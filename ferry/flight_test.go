package ferry_test

import (
	"strings"
	"testing"

	"ferry/api"
	"ferry/ferry"
)

// wantClosed: one that is closed and not gone is there for all calls, and nothing is sent to it or told to it.
func wantClosed(t *testing.T, x *ferry.Ferry, u int, want api.Status) {
	t.Helper()
	want.Phase = 4
	wantStatus(t, x, u, want)
	wantSend(t, x, u, "", api.ErrClient)
	wantSend(t, x, u, strings.Repeat("x", 1025), api.ErrClient)
	wantTake(t, x, u, 99, "", api.OK)
	wantTake(t, x, u, -1, "", api.ErrArg)
	wantHang(t, x, u, api.OK)
	wantStatus(t, x, u, want)
}

// TestHangInFlight: what is in flight is done, what waits is not, and nobody has the seat until then.
func TestHangInFlight(t *testing.T) {
	for delay := 1; delay <= 16; delay++ {
		c := ring(2)
		x := aboard(t, c, 1, 1)
		wantFate(t, x, delay, false, 0, api.OK)
		wantSend(t, x, 0, put(1, 0, "abcd")+put(2, 4, "efgh")+put(3, 12, "ijkl")+head(9, 0, 4, 0, 0)+"Q", api.OK)
		x.Tick()
		wantStatus(t, x, 0, api.Status{Phase: 2, Unread: 1, Queued: 1, Flying: 2, Tokens: 30, Deficit: 8, Out: 4, Served: 8})
		wantHang(t, x, 0, api.OK)
		wantClosed(t, x, 0, api.Status{Flying: 2, Tokens: 30, Deficit: 8, Served: 8})
		for range delay - 1 {
			x.Tick()
			wantClosed(t, x, 0, api.Status{Flying: 2, Tokens: 32, Deficit: 8, Served: 8})
			wantConnect(t, x, 1, 0, api.ErrFull)
			wantDisk(t, x, "")
		}
		x.Tick()
		wantNobody(t, x, 0)
		wantDisk(t, x, "abcdefgh")
		wantLogged(t, x, 1, 2)
		wantConnect(t, x, 1, 2, api.OK)
		ticks(x, 5)
		wantLogged(t, x, 1, 2)
		wantStatus(t, x, 2, api.Status{Tokens: 32})
		wantTaken(t, x, 2)
	}
}

// TestRubbishInFlight: who is closed for what it says goes as one who hangs up.
func TestRubbishInFlight(t *testing.T) {
	for _, s := range []string{"nine more", head(0, 0, 9, 0, 17), get(1, 0, 4), get(2, 0, 4), head(9, 0, 1, 0, 0)} {
		c := ring(2)
		x := aboard(t, c, 1, 1)
		wantFate(t, x, 2, true, 1, api.OK)
		wantSend(t, x, 0, put(1, 0, "abcdefgh")+get(2, 0, 4), api.OK)
		x.Tick()
		wantSend(t, x, 0, s+"and more", api.OK)
		x.Tick()
		wantClosed(t, x, 0, api.Status{Flying: 1, Tokens: 32, Deficit: 8, Served: 8})
		x.Tick()
		wantNobody(t, x, 0)
		wantDisk(t, x, "abcd")
		if l := x.Log(); len(l) != 1 || l[0] != (api.Entry{Cookie: 1, Kind: api.Write, Length: 8, Err: 5}) {
			t.Errorf("P10: Log() = %+v", l)
		}
	}
}

// TestClosedWhenDone: closed in the very tick in which all that is in flight is done, it is told nothing, and gone at its end.
func TestClosedWhenDone(t *testing.T) {
	x := aboard(t, ring(2), 1, 1)
	wantSend(t, x, 0, put(1, 0, "abcd"), api.OK)
	x.Tick()
	wantSend(t, x, 0, "nine more", api.OK)
	x.Tick()
	wantNobody(t, x, 0)
	wantDisk(t, x, "abcd")
	wantLogged(t, x, 1)
}

// TestLastInFlight: one is gone when the last of its jobs is done, not the first.
func TestLastInFlight(t *testing.T) {
	c := ring(2)
	c.Workers, c.Quantum = 4, 64
	x := aboard(t, c, 1, 1)
	for _, delay := range []int{4, 2, 3, 1} {
		wantFate(t, x, delay, false, 0, api.OK)
	}
	wantSend(t, x, 0, put(1, 0, "aaaa")+put(2, 8, "bbbb")+put(3, 16, "cccc")+put(4, 24, "dddd"), api.OK)
	x.Tick()
	wantHang(t, x, 0, api.OK)
	for n := range 3 {
		x.Tick()
		wantClosed(t, x, 0, api.Status{Flying: 3 - n, Tokens: 32, Deficit: 0, Served: 16})
	}
	x.Tick()
	wantNobody(t, x, 0)
	wantLogged(t, x, 4, 2, 3, 1)
}

// TestHeldByAClosedOne: what a closed client has in flight still holds; what it had in its queue does not.
func TestHeldByAClosedOne(t *testing.T) {
	c := ring(2)
	c.Workers = 2
	x := aboard(t, c, 1, 1)
	wantFate(t, x, 3, false, 0, api.OK)
	wantSend(t, x, 0, put(1, 0, "aaaa")+put(2, 0, "bbbb")+put(3, 8, "cccc"), api.OK)
	x.Tick()
	wantHang(t, x, 0, api.OK)
	wantSend(t, x, 1, get(4, 8, 4)+get(5, 0, 4), api.OK)
	x.Tick()
	wantStatus(t, x, 1, api.Status{Phase: 2, Queued: 1, Flying: 1, Tokens: 31, Deficit: 12, Served: 4})
	x.Tick()
	wantTaken(t, x, 1, reply(0, 4, "\x00\x00\x00\x00"))
	wantStatus(t, x, 1, api.Status{Phase: 2, Queued: 1, Tokens: 32, Served: 4})
	ticks(x, 2)
	wantTaken(t, x, 1, reply(0, 5, "aaaa"))
}

// TestByeInFlight: all that was asked ahead of BYE is done and told; gone is who has taken the last byte of it.
func TestByeInFlight(t *testing.T) {
	c := ring(2)
	x := aboard(t, c, 1, 1)
	wantSend(t, x, 0, put(1, 0, "abcd")+get(2, 0, 4)+flush(3)+bye()+"more", api.OK)
	x.Tick()
	wantStatus(t, x, 0, api.Status{Phase: 3, Unread: 4, Queued: 2, Flying: 1, Tokens: 31, Deficit: 12, Served: 4})
	wantTaken(t, x, 0) // it has nothing to hear yet, but is not gone
	wantStatus(t, x, 0, api.Status{Phase: 3, Unread: 4, Queued: 2, Flying: 1, Tokens: 31, Deficit: 12, Served: 4})
	x.Tick()
	wantTaken(t, x, 0, reply(0, 1, ""))
	wantStatus(t, x, 0, api.Status{Phase: 3, Unread: 4, Queued: 1, Flying: 1, Tokens: 31, Deficit: 8, Served: 8})
	x.Tick()
	wantTaken(t, x, 0, reply(0, 2, "abcd"))
	wantStatus(t, x, 0, api.Status{Phase: 3, Unread: 4, Flying: 1, Tokens: 31, Deficit: 4, Served: 12})
	wantSend(t, x, 0, "x", api.OK)
	x.Tick()
	wantStatus(t, x, 0, api.Status{Phase: 3, Unread: 5, Tokens: 32, Out: 4, Served: 12})
	ticks(x, 3)
	wantTake(t, x, 0, 3, reply(0, 3, "")[:3], api.OK)
	wantConnect(t, x, 1, 0, api.ErrFull)
	wantTake(t, x, 0, 1, "\x00", api.OK)
	wantNobody(t, x, 0)
	wantConnect(t, x, 1, 2, api.OK)
}

// TestHangBehindBye: who hangs up takes nothing any more, and is gone when what is in flight is done.
func TestHangBehindBye(t *testing.T) {
	x := aboard(t, ring(2), 1, 1)
	wantSend(t, x, 0, put(1, 0, "abcd")+get(2, 0, 4)+bye(), api.OK)
	x.Tick()
	wantHang(t, x, 0, api.OK)
	wantClosed(t, x, 0, api.Status{Flying: 1, Tokens: 31, Deficit: 12, Served: 4})
	x.Tick()
	wantNobody(t, x, 0)
	wantLogged(t, x, 1)
	wantDisk(t, x, "abcd")

	wantSend(t, x, 1, put(3, 4, "efgh")+bye(), api.OK)
	ticks(x, 2)
	wantStatus(t, x, 1, api.Status{Phase: 3, Tokens: 32, Out: 4, Served: 4})
	wantHang(t, x, 1, api.OK)
	wantNobody(t, x, 1)
}

// TestStatusOfTwo: each field is the client's own, tick by tick.
func TestStatusOfTwo(t *testing.T) {
	c := ring(2)
	c.Rate, c.Burst, c.Workers = 1, 3, 2
	x := aboard(t, c, 2, 1)
	wantSend(t, x, 0, get(1, 0, 16)+get(2, 0, 16)+get(3, 0, 16)+flush(4), api.OK)
	wantSend(t, x, 1, get(5, 0, 8)+get(6, 16, 8)+flush(7), api.OK)
	for _, want := range [][2]api.Status{
		{{Queued: 2, Flying: 2, Tokens: 1, Served: 32}, {Queued: 3, Tokens: 3}},
		{{Queued: 2, Tokens: 2, Out: 40, Served: 32}, {Queued: 1, Flying: 2, Tokens: 1, Served: 16}},
		{{Flying: 2, Tokens: 1, Deficit: 12, Out: 40, Served: 52}, {Queued: 1, Tokens: 2, Out: 24, Served: 16}},
		{{Tokens: 2, Out: 64, Served: 52}, {Flying: 1, Tokens: 2, Out: 24, Served: 20}},
		{{Tokens: 3, Out: 64, Served: 52}, {Tokens: 3, Out: 28, Served: 20}},
	} {
		x.Tick()
		for u := range 2 {
			want[u].Phase = 2
			wantStatus(t, x, u, want[u])
		}
	}
}

// TestStopWithRequests: nothing more is read; what waits is dispatched, what is in flight is done.
func TestStopWithRequests(t *testing.T) {
	c := ring(2)
	x := aboard(t, c, 1, 1)
	if x.Done() {
		t.Error("P8: Done() ahead of Stop, with nothing to do")
	}
	wantSend(t, x, 0, put(1, 0, "abcd")+get(2, 0, 4)+put(3, 8, "efgh"), api.OK)
	wantSend(t, x, 1, get(4, 0, 4), api.OK)
	x.Tick()
	wantSend(t, x, 0, get(5, 0, 4), api.OK)
	wantSend(t, x, 1, "rubbish, and more", api.OK)
	x.Stop()
	for n := range 4 {
		if x.Done() {
			t.Errorf("P8: Done() with %d requests done", n)
		}
		wantConnect(t, x, 1, 0, api.ErrStopped)
		x.Tick()
		if s := statusOf(x, 1); s.Unread != 17 || s.Phase != 2 {
			t.Errorf("P8: Client(1) = %+v, though nothing is to be read", s)
		}
	}
	for range 3 {
		if !x.Done() {
			t.Error("P8: not Done(), though all is done")
		}
		x.Tick()
	}
	wantTaken(t, x, 0, reply(0, 1, ""), reply(0, 2, "abcd"), reply(0, 3, ""))
	wantTaken(t, x, 1, reply(0, 4, "abcd"))
	wantStatus(t, x, 0, api.Status{Phase: 2, Unread: 9, Tokens: 32, Served: 12})
	wantLogged(t, x, 1, 2, 3, 4)
	wantFate(t, x, 1, false, 0, api.OK)
}

// TestDone: what is not read yet, or not taken, does not count; what waits and what is in flight does, whoever it was from.
func TestDone(t *testing.T) {
	x := begun(t, ring(1))
	x.Stop()
	if !x.Done() {
		t.Error("P8: not Done() behind Stop, with nobody there")
	}
	x = aboard(t, ring(1), 1)
	wantSend(t, x, 0, flush(1), api.OK)
	x.Stop()
	if !x.Done() {
		t.Error("P8: not Done() behind Stop, with bytes that nobody reads")
	}
	x.Tick()
	wantStatus(t, x, 0, api.Status{Phase: 2, Unread: 9, Tokens: 32})

	x = aboard(t, ring(1), 1)
	wantFate(t, x, 3, false, 0, api.OK)
	wantSend(t, x, 0, put(1, 0, "abcd"), api.OK)
	ticks(x, 1)
	wantHang(t, x, 0, api.OK)
	x.Stop()
	for range 3 {
		if x.Done() {
			t.Error("P8: Done() with a job in flight, of one that is closed")
		}
		x.Tick()
	}
	if !x.Done() {
		t.Error("P8: not Done(), though the last job is done")
	}
	wantDisk(t, x, "abcd")

	c := ring(1)
	c.Out = 26
	x = aboard(t, c, 1)
	wantSend(t, x, 0, get(1, 0, 16)+get(2, 0, 16), api.OK)
	x.Tick()
	x.Stop()
	for range 5 {
		x.Tick()
		if x.Done() {
			t.Error("P8: Done() with a request that waits for room")
		}
	}
	wantTaken(t, x, 0, reply(0, 1, strings.Repeat("\x00", 16)))
	ticks(x, 1)
	if x.Done() {
		t.Error("P8: Done() with a request in flight")
	}
	ticks(x, 1)
	if !x.Done() {
		t.Error("P8: not Done(), though nothing but bytes to take is left")
	}
}
