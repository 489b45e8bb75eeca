package ferry

import (
	"slices"

	"ferry/api"
	"ferry/client"
	"ferry/job"
)

// Fate says what a job to come will meet (P8).
func (x *Ferry) Fate(delay int, fails bool, part int) api.Errno {
	if !within(delay, 1, api.MaxDelay) || part < 0 {
		return api.ErrArg
	}
	if len(x.fates) >= api.MaxFates {
		return api.ErrLong
	}
	x.fates = append(x.fates, job.Fate{Delay: delay, Fails: fails, Part: part})
	return api.OK
}

// nextFate takes the first fate off the list.
func (x *Ferry) nextFate() job.Fate {
	if len(x.fates) == 0 {
		return job.Fate{Delay: 1}
	}
	f := x.fates[0]
	x.fates = slices.Delete(x.fates, 0, 1)
	return f
}

// dispatch makes a job of the client's first request, which must be free and
// paid for, and of all behind it that may go along.
func (x *Ferry) dispatch(c *client.Client) {
	j := job.New(c)
	for x.goesAlong(c, j) {
		j.TakeAlong()
	}
	j.Start(x.clock, x.dispatched, x.nextFate())
	x.dispatched++
	x.flight.Push(j)
}

// goesAlong asks of the request that has become the first what was asked of
// the one before it, and whether it fits to that.
func (x *Ferry) goesAlong(c *client.Client, j *job.Job) bool {
	r, free := x.firstFree(c)
	return free && c.CanPay(r) && j.Fits(r, x.config.Max)
}

// firstFree is the client's first request, and whether it is there, ready and
// not held.
func (x *Ferry) firstFree(c *client.Client) (client.Request, bool) {
	r, ready := c.Ready()
	return r, ready && !x.isHeld(r)
}

// isHeld need not leave out the client whose first request r is: that one has
// no lower number than itself. A job on its way to be dispatched is not in
// flight yet, but r lies behind all its bytes if it goes along.
func (x *Ferry) isHeld(r client.Request) bool {
	for j := range x.flight.All() {
		if j.Touches(r) {
			return true
		}
	}
	for c := range x.seated() {
		if first, ready := c.Ready(); ready && first.Number < r.Number && first.Touches(r) {
			return true
		}
	}
	return false
}

// finish does what is due.
func (x *Ferry) finish() {
	for {
		j, ok := x.flight.Top()
		if !ok || !j.IsDue(x.clock) {
			return
		}
		x.flight.Pop()
		x.log = append(x.log, j.Do(x.disk)...)
	}
}
