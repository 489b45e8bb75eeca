package ferry

// turn is the seat whose client may dispatch jobs. While it is open, the client
// has got its share for this turn already.
type turn struct {
	seat int
	open bool
}

// takeTurns lets the turn go on from seat to seat until no worker is free, or
// nobody has had a job: once round, and once more, since the first turn may
// have been one that was open already.
func (x *Ferry) takeTurns() {
	passed := 0
	for x.flight.Len() < x.config.Workers && passed <= x.config.Clients {
		if x.useTurn() {
			passed = 0
		} else {
			x.passTurn()
			passed++
		}
	}
}

// useTurn tells whether a job was dispatched. A client whose first request is
// free but too dear keeps its share: with the next one it will be able to pay.
func (x *Ferry) useTurn() bool {
	c := x.seats[x.turn.seat]
	if c == nil {
		return false
	}
	if !x.turn.open {
		c.OpenTurn()
		x.turn.open = true
	}
	r, free := x.firstFree(c)
	if !free {
		c.LoseShare()
		return false
	}
	if !c.CanPay(r) {
		return false
	}
	x.dispatch(c)
	return true
}

func (x *Ferry) passTurn() {
	x.turn = turn{seat: (x.turn.seat + 1) % x.config.Clients}
}
