package ferry

import "sync"

// Tick lets time go by (P8).
func (x *Ferry) Tick() {
	x.clock++
	for c := range x.seated() {
		c.Earn()
	}
	if !x.stopped {
		x.read()
	}
	x.finish()
	x.takeTurns()
	x.letGo()
}

// read numbers the requests when all have been read: which goroutine was first
// must not be seen in anything.
func (x *Ferry) read() {
	var reading sync.WaitGroup
	for c := range x.seated() {
		reading.Add(1)
		go func() {
			defer reading.Done()
			c.Read()
		}()
	}
	reading.Wait()
	for c := range x.seated() {
		x.accepted = c.NumberRequests(x.accepted)
	}
}
