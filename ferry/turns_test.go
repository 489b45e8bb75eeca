package ferry_test

import (
	"slices"
	"strings"
	"testing"

	"ferry/api"
)

// ring is a configuration with so many seats and one worker, in which one turn is worth 16 bytes.
func ring(clients int) api.Config {
	return api.Config{Size: 64, Clients: clients, Queue: 8, Max: 16, Quantum: 16, Rate: 16, Burst: 32, Workers: 1, Out: 256}
}

func ones(n int) []int { return slices.Repeat([]int{1}, n) }

// TestRing: in a tick without jobs the turn goes on once round and once more; then it goes from seat to seat.
func TestRing(t *testing.T) {
	for clients := 1; clients <= 8; clients++ {
		for idle := range 2*clients + 1 {
			x := aboard(t, ring(clients), ones(clients)...)
			ticks(x, idle)
			var want []int
			for u := range clients {
				wantSend(t, x, u, flush(u), api.OK)
				want = append(want, (idle+u)%clients)
			}
			ticks(x, clients+1)
			wantLogged(t, x, want...)
		}
	}
}

// TestEndOfTheRound: it is counted from the last job on.
func TestEndOfTheRound(t *testing.T) {
	for clients := 1; clients <= 8; clients++ {
		for seat := range clients {
			c := ring(clients)
			c.Workers = 8
			x := aboard(t, c, ones(clients)...)
			wantSend(t, x, seat, flush(99), api.OK)
			x.Tick()
			want := []int{99}
			for u := range clients {
				wantSend(t, x, u, flush(u), api.OK)
				want = append(want, (seat+1+u)%clients)
			}
			ticks(x, 2)
			wantLogged(t, x, want...)
		}
	}
}

// TestEmptySeats: the turn goes on where nobody sits, and where one sits again it stops.
func TestEmptySeats(t *testing.T) {
	for idle := range 5 {
		x := aboard(t, ring(4), ones(4)...)
		wantHang(t, x, 0, api.OK)
		wantHang(t, x, 2, api.OK)
		ticks(x, idle)
		for _, u := range []int{1, 3} {
			wantSend(t, x, u, get(10*u, 0, 16)+get(10*u+1, 0, 16), api.OK)
		}
		ticks(x, 5)
		if idle%4 < 2 {
			wantLogged(t, x, 10, 30, 11, 31)
		} else {
			wantLogged(t, x, 30, 10, 31, 11)
		}
		wantConnect(t, x, 1, 4, api.OK)
		wantSend(t, x, 4, "FERRYag"+flush(5), api.OK)
		ticks(x, 5)
		wantTaken(t, x, 4, "YG", reply(0, 5, ""))
	}
	x := aboard(t, ring(8), 1, 1, 1)
	for u := range 3 {
		wantSend(t, x, u, flush(u), api.OK)
	}
	ticks(x, 4)
	wantLogged(t, x, 0, 1, 2)
	alone := aboard(t, ring(8))
	ticks(alone, 20)
	wantLogged(t, alone)
}

// TestGoneAtItsTurn: who sits down where the turn was open gets a share of its own.
func TestGoneAtItsTurn(t *testing.T) {
	x := aboard(t, ring(2), 1, 1)
	wantFate(t, x, 3, false, 0, api.OK)
	wantSend(t, x, 0, put(1, 0, "abcd"), api.OK)
	x.Tick()
	wantStatus(t, x, 0, api.Status{Phase: 2, Flying: 1, Tokens: 31, Deficit: 12, Served: 4})
	wantHang(t, x, 0, api.OK)
	ticks(x, 2)
	wantStatus(t, x, 0, api.Status{Phase: 4, Flying: 1, Tokens: 32, Deficit: 12, Served: 4})
	x.Tick()
	wantNobody(t, x, 0)
	wantConnect(t, x, 2, 2, api.OK)
	wantStatus(t, x, 2, api.Status{Tokens: 32})
	wantSend(t, x, 2, "FERRYag"+get(2, 0, 16)+get(3, 0, 16)+get(4, 0, 4), api.OK)
	x.Tick()
	wantStatus(t, x, 2, api.Status{Phase: 2, Queued: 2, Flying: 1, Tokens: 31, Deficit: 16, Out: 2, Served: 16})
}

// TestDeficits: what is left of a share is kept for the next turn as long as the first request is only too dear.
func TestDeficits(t *testing.T) {
	for _, way := range []struct {
		weight, cost int
		left         []int
	}{
		{1, 12, []int{4, 8, 12, 0, 4, 8, 12}},
		{2, 12, []int{20, 8, 28, 16, 4, 24, 12, 0, 20}},
		{1, 16, []int{0, 0, 0}},
		{4, 16, []int{48, 32, 16, 0, 48}},
		{3, 4, []int{44, 40, 36, 32, 28, 24, 20, 16, 12, 8, 4, 0, 44}},
	} {
		for clients := 1; clients <= 3; clients++ {
			x := aboard(t, ring(clients), slices.Repeat([]int{way.weight}, clients)...)
			for n := range len(way.left) + 1 {
				wantSend(t, x, 0, get(n, 0, way.cost), api.OK)
			}
			for n, left := range way.left {
				x.Tick()
				if s := statusOf(x, 0); s.Deficit != left || s.Served != (n+1)*way.cost || s.Flying != 1 {
					t.Errorf("weight %d, cost %d: behind %d jobs Client(0) = %+v, want the deficit %d", way.weight, way.cost, n+1, s, left)
				}
			}
		}
	}
}

// TestDeficitsApart: each client keeps its own, while others have their turns.
func TestDeficitsApart(t *testing.T) {
	x := aboard(t, ring(2), 1, 1)
	for n := range 5 {
		wantSend(t, x, 0, get(10+n, 0, 12), api.OK)
		wantSend(t, x, 1, get(20+n, 0, 8), api.OK)
	}
	ticks(x, 11)
	wantLogged(t, x, 10, 20, 21, 11, 22, 23, 12, 13, 24, 14)
	y := aboard(t, ring(2), 1, 1)
	for n := range 5 {
		wantSend(t, y, 0, get(10+n, 0, 12), api.OK)
		wantSend(t, y, 1, get(20+n, 0, 8), api.OK)
	}
	for n, want := range [][2]int{{4, 0}, {4, 8}, {4, 0}, {8, 0}, {8, 8}, {8, 0}, {12, 0}, {0, 0}} {
		y.Tick()
		if got := [2]int{statusOf(y, 0).Deficit, statusOf(y, 1).Deficit}; got != want {
			t.Errorf("P9: behind %d ticks the deficits are %v, want %v", n+1, got, want)
		}
	}
}

// TestNothingLeft: the deficit becomes 0 where the queue is empty or the first request is not ready.
func TestNothingLeft(t *testing.T) {
	c := ring(1)
	c.Workers = 2
	x := aboard(t, c, 4)
	wantSend(t, x, 0, flush(1), api.OK)
	x.Tick()
	wantStatus(t, x, 0, api.Status{Phase: 2, Flying: 1, Tokens: 31, Served: 4})
	c.Rate, c.Burst = 1, 2
	x = aboard(t, c, 4)
	wantSend(t, x, 0, flush(1)+flush(2)+flush(3)+flush(4), api.OK)
	x.Tick()
	wantStatus(t, x, 0, api.Status{Phase: 2, Queued: 2, Flying: 2, Deficit: 56, Served: 8}) // the workers are busy
	c.Workers = 3
	x = aboard(t, c, 4)
	wantSend(t, x, 0, flush(1)+flush(2)+flush(3)+flush(4), api.OK)
	x.Tick()
	wantStatus(t, x, 0, api.Status{Phase: 2, Queued: 2, Flying: 2, Served: 8}) // no token
	x.Tick()
	wantStatus(t, x, 0, api.Status{Phase: 2, Queued: 1, Flying: 1, Out: 8, Served: 12})
	x.Tick()
	wantStatus(t, x, 0, api.Status{Phase: 2, Flying: 1, Out: 12, Served: 16})
	x.Tick()
	wantStatus(t, x, 0, api.Status{Phase: 2, Tokens: 1, Out: 16, Served: 16})
	x.Tick()
	wantStatus(t, x, 0, api.Status{Phase: 2, Tokens: 2, Out: 16, Served: 16})
}

// TestNoRoom: a request waits until there is room for its reply, to the byte; others do not wait for it.
func TestNoRoom(t *testing.T) {
	c := ring(2)
	c.Workers, c.Out = 2, 22
	x := aboard(t, c, 1, 1)
	wantSend(t, x, 0, get(1, 0, 12)+get(2, 16, 4), api.OK)
	x.Tick()
	wantStatus(t, x, 0, api.Status{Phase: 2, Queued: 1, Flying: 1, Tokens: 31, Served: 12}) // 16 and 8 bytes are above 22
	x.Tick()
	wantStatus(t, x, 0, api.Status{Phase: 2, Queued: 1, Tokens: 32, Out: 16, Served: 12})
	wantTake(t, x, 0, 1, "R", api.OK)
	wantSend(t, x, 1, put(3, 16, "abcd"), api.OK) // what waits for room holds nobody
	x.Tick()
	wantStatus(t, x, 0, api.Status{Phase: 2, Queued: 1, Tokens: 32, Out: 15, Served: 12})
	wantStatus(t, x, 1, api.Status{Phase: 2, Flying: 1, Tokens: 31, Served: 4})
	wantTake(t, x, 0, 1, "\x00", api.OK)
	x.Tick()
	wantStatus(t, x, 0, api.Status{Phase: 2, Flying: 1, Tokens: 31, Out: 14, Served: 16})
	x.Tick()
	wantTaken(t, x, 0, reply(0, 1, strings.Repeat("\x00", 12))[2:], reply(0, 2, "abcd"))
}

// TestRoomInFlight: replies to come keep their room from what is read, too.
func TestRoomInFlight(t *testing.T) {
	for out := 20; out <= 60; out++ {
		c := ring(1)
		c.Out = out
		x := aboard(t, c, 1)
		wantFate(t, x, 3, false, 0, api.OK)
		wantSend(t, x, 0, get(1, 0, 16), api.OK)
		x.Tick()
		wantSend(t, x, 0, strings.Repeat(head(9, 0, 9, 0, 0), 12), api.OK)
		x.Tick()
		read := 0
		for read < 12 && 20+4*read+6 <= out {
			read++
		}
		wantStatus(t, x, 0, api.Status{Phase: 2, Unread: 9 * (12 - read), Flying: 1, Tokens: 32, Served: 16, Out: 4 * read})
		ticks(x, 2)
		if s := statusOf(x, 0); s.Out > out || s.Flying != 0 {
			t.Errorf("Out %d: Client(0) = %+v", out, s)
		}
	}
}

// TestBusyWorkers: while none is free, the turn stays where it is, and nobody's deficit grows.
func TestBusyWorkers(t *testing.T) {
	for workers := 1; workers <= 8; workers++ {
		c := ring(2)
		c.Workers, c.Quantum = workers, 64
		x := aboard(t, c, 1, 1)
		s := ""
		for n := range workers {
			wantFate(t, x, 5+n, false, 0, api.OK)
			s += get(n, 0, 4)
		}
		wantSend(t, x, 0, s, api.OK)
		x.Tick()
		wantSend(t, x, 1, get(20, 0, 4), api.OK)
		wantSend(t, x, 0, get(10, 0, 4), api.OK)
		for range 4 {
			if s := statusOf(x, 0); s.Flying != workers || s.Deficit != 64-4*workers || s.Served != 4*workers {
				t.Errorf("Workers %d: Client(0) = %+v", workers, s)
			}
			x.Tick()
			wantStatus(t, x, 1, api.Status{Phase: 2, Queued: 1, Tokens: 32})
		}
		x.Tick() // the first is done; the turn is still the first client's
		wantStatus(t, x, 0, api.Status{Phase: 2, Flying: workers, Tokens: 31, Deficit: 60 - 4*workers, Out: 8, Served: 4 + 4*workers})
		wantStatus(t, x, 1, api.Status{Phase: 2, Queued: 1, Tokens: 32})
		x.Tick()
		if s := statusOf(x, 1); s.Flying != 1 {
			t.Errorf("Workers %d: Client(1) = %+v, want its request in flight", workers, s)
		}
	}
}

// TestHeldByFlight: one that touches what is in flight waits until that is done; what does not goes.
func TestHeldByFlight(t *testing.T) {
	touching := []struct {
		flying, next string
		held         bool
	}{
		{put(1, 8, "abcdefgh"), put(2, 8, "ijkl"), true},
		{put(1, 8, "abcdefgh"), get(2, 12, 4), true},
		{put(1, 8, "abcdefgh"), get(2, 4, 8), true},
		{put(1, 8, "abcdefgh"), get(2, 0, 16), true},
		{put(1, 8, "abcdefgh"), get(2, 0, 8), false},
		{put(1, 8, "abcdefgh"), get(2, 16, 8), false},
		{put(1, 8, "abcdefgh"), flush(2), false},
		{put(1, 0, "abcd"), flush(2), false},
		{flush(1), put(2, 0, "abcd"), false},
		{flush(1), flush(2), false},
		{get(1, 8, 8), get(2, 8, 8), false},
		{get(1, 8, 8), head(api.Trim, 0, 2, 12, 4), true},
		{get(1, 8, 8), head(api.Zero, 1, 2, 4, 8), true},
		{head(api.Trim, 0, 1, 8, 8), head(api.Zero, 0, 2, 12, 16), true},
		{head(api.Trim, 0, 1, 8, 8), head(api.Zero, 0, 2, 16, 16), false},
		{put(1, 8, "abcd") + put(3, 12, "efgh"), get(2, 12, 4), true},
		{put(1, 8, "abcd") + put(3, 12, "efgh"), get(2, 16, 4), false},
	}
	for _, way := range touching {
		c := ring(2)
		c.Workers = 2
		x := aboard(t, c, 1, 1)
		wantFate(t, x, 3, false, 0, api.OK)
		wantSend(t, x, 0, way.flying, api.OK)
		wantSend(t, x, 1, way.next, api.OK)
		for range 3 {
			x.Tick()
			if s := statusOf(x, 1); way.held && (s.Queued != 1 || s.Flying != 0 || s.Deficit != 0 || s.Tokens != 32) || !way.held && s.Queued != 0 {
				t.Errorf("%q behind %q: Client(1) = %+v", way.next, way.flying, s)
			}
		}
		x.Tick()
		if s := statusOf(x, 1); way.held && s.Flying != 1 || s.Queued != 0 {
			t.Errorf("%q when %q is done: Client(1) = %+v", way.next, way.flying, s)
		}
	}
}

// TestHeldByALowerNumber: who came first goes first, if it is ready; else it holds nobody.
func TestHeldByALowerNumber(t *testing.T) {
	full := strings.Repeat(head(9, 0, 9, 0, 0), 4)
	for _, way := range []struct {
		name          string
		early, ahead  string
		later, beside string
		flying        int
		queued        int
	}{
		{name: "the first is held", early: put(1, 4, "efgh"), later: put(2, 4, "abcd"), queued: 1},
		{name: "a read is held by a write", early: put(1, 4, "efgh"), later: get(2, 0, 8), queued: 1},
		{name: "a write is held by a read", early: get(1, 4, 4), later: put(2, 0, "abcdefgh"), queued: 1},
		{name: "reads hold no reads", early: get(1, 4, 4), later: get(2, 4, 4), flying: 1},
		{name: "beside it", early: get(1, 4, 4), later: put(2, 0, "abcd") + put(3, 8, "abcd"), flying: 1, queued: 1},
		{name: "the second is held", early: get(1, 4, 4), later: put(2, 0, "abcd") + put(3, 4, "abcd"), flying: 1, queued: 1},
		{name: "the third is held", early: put(1, 8, "efgh"), later: put(2, 0, "abcd") + put(3, 4, "abcd") + put(4, 8, "abcd"), flying: 2, queued: 1},
		{name: "no room, not ready", early: get(1, 4, 12), ahead: full, later: put(2, 0, "abcd") + put(3, 4, "abcd"), flying: 2},
		{name: "not the first of its queue", early: get(1, 40, 4) + get(2, 4, 4), later: put(2, 0, "abcd") + put(3, 4, "abcd"), flying: 2},
		{name: "a higher number", beside: get(1, 4, 4), later: put(2, 0, "abcd") + put(3, 4, "abcd"), flying: 2},
	} {
		c := ring(3)
		c.Out = 28
		x := aboard(t, c, 1, 1, 1)
		wantFate(t, x, 2, false, 0, api.OK)
		wantSend(t, x, 2, flush(99), api.OK)
		wantSend(t, x, 1, way.ahead, api.OK)
		x.Tick()
		wantSend(t, x, 1, way.early, api.OK)
		x.Tick()
		wantSend(t, x, 1, way.beside, api.OK)
		wantSend(t, x, 0, way.later, api.OK)
		x.Tick()
		s := statusOf(x, 0)
		if s.Flying != way.flying || s.Queued != way.queued || way.flying == 0 && s.Deficit != 0 {
			t.Errorf("%s: Client(0) = %+v, want %d in flight and %d in the queue", way.name, s, way.flying, way.queued)
		}
	}
}

// TestHeldAlong: what is held by one in flight does not go along either.
func TestHeldAlong(t *testing.T) {
	for held, want := range []int{0, 1, 2} {
		c := ring(2)
		c.Workers = 2
		x := aboard(t, c, 1, 1)
		ticks(x, 1) // the turn is at seat 1
		wantFate(t, x, 3, false, 0, api.OK)
		wantSend(t, x, 1, get(9, 4*held, 4), api.OK)
		x.Tick()
		wantSend(t, x, 0, row(api.Zero, 0, 1, 0, 4, 4, 4, 8, 4), api.OK)
		x.Tick()
		if s := statusOf(x, 0); s.Flying != want || s.Queued != 3-want || want == 0 && s.Deficit != 0 {
			t.Errorf("Client(0) = %+v, want %d in flight", s, want)
		}
		ticks(x, 3)
		wantTaken(t, x, 1, reply(0, 9, "\x00\x00\x00\x00"))
	}
}

// TestHeldByItsOwn: requests of one client that touch are done one behind the other, too.
func TestHeldByItsOwn(t *testing.T) {
	c := ring(1)
	c.Workers = 8
	x := aboard(t, c, 1)
	wantSend(t, x, 0, put(1, 0, "abcd")+put(2, 0, "efgh")+get(3, 0, 4)+put(4, 0, "ijkl"), api.OK)
	for n := range 4 {
		x.Tick()
		if s := statusOf(x, 0); s.Flying != 1 || s.Queued != 3-n || s.Deficit != 0 || s.Served != 4*n+4 {
			t.Errorf("behind %d ticks Client(0) = %+v", n+1, s)
		}
	}
	x.Tick()
	wantTaken(t, x, 0, reply(0, 1, ""), reply(0, 2, ""), reply(0, 3, "efgh"), reply(0, 4, ""))
	wantDisk(t, x, "ijkl")
}
