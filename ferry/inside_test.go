package ferry

import (
	"testing"

	"ferry/api"
	"ferry/wire"
)

func TestClock(t *testing.T) {
	x, _ := New(api.Config{Size: 4, Clients: 1, Queue: 1, Max: 4, Quantum: 4, Rate: 1, Burst: 1, Workers: 1, Out: 8})
	for want := range 5 {
		if x.clock != want {
			t.Errorf("P5: the clock is %d behind %d ticks", x.clock, want)
		}
		if want == 3 {
			x.Stop()
		}
		x.Tick()
	}
}

// TestNumbersInTheOrderOfSeats: requests that are read in one tick are numbered by seat, not by who came or was read first.
func TestNumbersInTheOrderOfSeats(t *testing.T) {
	c := api.Config{Size: 4, Clients: 8, Queue: 2, Max: 4, Quantum: 4, Rate: 1, Burst: 1, Workers: 1, Out: 32}
	flush := func(cookie byte) string { return "Q\x02\x00" + string([]byte{cookie}) + "\x00\x00\x00\x00\x00" }
	for range 50 {
		x, _ := New(c)
		for range c.Clients {
			x.Connect(1)
		}
		x.Hang(2)
		x.Connect(1) // the last who came sits in the third seat
		for _, u := range []int{7, 8, 5, 6, 4, 3, 1, 0} {
			x.Send(u, "FERRYag"+flush(1)+flush(2))
		}
		x.read()
		for i, seat := range x.seats {
			if first, ok := seat.First(); !ok || first.Number != 2*i {
				t.Fatalf("the first request in seat %d is %+v", i, first)
			}
		}
		if x.accepted != 2*c.Clients {
			t.Fatalf("%d requests have numbers, want %d", x.accepted, 2*c.Clients)
		}
	}
}

// TestSeats: the lowest seat that is free is taken.
func TestSeats(t *testing.T) {
	x, _ := New(api.Config{Size: 4, Clients: 4, Queue: 1, Max: 4, Quantum: 4, Rate: 1, Burst: 1, Workers: 1, Out: 8})
	for range 4 {
		x.Connect(1)
	}
	for _, step := range []struct{ gone, seat int }{{3, 3}, {1, 1}, {0, 0}} {
		x.Hang(step.gone)
		u, _ := x.Connect(1)
		if x.seats[step.seat] == nil || x.seats[step.seat].Number() != u {
			t.Errorf("seat %d was free, but %d does not sit there", step.seat, u)
		}
	}
	for u := range 8 {
		x.Hang(u)
	}
	for want := range 4 {
		u, _ := x.Connect(1)
		if x.seats[want].Number() != u || x.seats[want].Status().Phase != wire.PhaseGreeting {
			t.Errorf("%d does not sit in seat %d", u, want)
		}
	}
}

// TestTurnOfOneGone: the turn at the seat of one that is gone is not open any more; at any other seat it is.
func TestTurnOfOneGone(t *testing.T) {
	for gone := range 3 {
		for seat := range 3 {
			x, _ := New(api.Config{Size: 4, Clients: 3, Queue: 1, Max: 4, Quantum: 4, Rate: 1, Burst: 1, Workers: 1, Out: 8})
			for range 3 {
				x.Connect(1)
			}
			x.turn = turn{seat: seat, open: true}
			x.Hang(gone)
			if want := (turn{seat: seat, open: seat != gone}); x.turn != want {
				t.Errorf("when the one in seat %d is gone, the turn is %+v, want %+v", gone, x.turn, want)
			}
		}
	}
}

// TestTurnAtFirst: at seat 0, not open; it is open only where a job was dispatched last.
func TestTurnAtFirst(t *testing.T) {
	x, _ := New(api.Config{Size: 4, Clients: 3, Queue: 4, Max: 4, Quantum: 8, Rate: 1, Burst: 1, Workers: 1, Out: 32})
	if x.turn != (turn{}) {
		t.Errorf("the turn is %+v at first", x.turn)
	}
	x.Connect(1)
	x.Connect(1)
	x.Send(1, "FERRYag")
	for tick, want := range []turn{{1, false}, {2, false}, {0, false}, {1, false}} {
		x.Tick()
		if x.turn != want {
			t.Errorf("behind %d ticks the turn is %+v, want %+v", tick+1, x.turn, want)
		}
	}
	x.Send(1, "Q\x02\x00\x07\x00\x00\x00\x00\x00")
	x.Fate(3, false, 0)
	for _, want := range []turn{{1, true}, {1, true}, {1, true}, {2, false}} {
		x.Tick()
		if x.turn != want {
			t.Errorf("with a job in flight the turn is %+v, want %+v", x.turn, want)
		}
	}
}
