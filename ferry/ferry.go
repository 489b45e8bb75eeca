// Package ferry: many clients, one disk, and nobody waits for ever: see DOC.md.
package ferry

import (
	"ferry/api"
	"ferry/client"
)

// Ferry serves a disk to clients.
type Ferry struct {
	config   api.Config
	seats    []*client.Client // nil where nobody sits
	came     int              // how many clients there have been
	accepted int              // how many requests have got a number
	clock    int
	stopped  bool
	disk     []byte
}

// New makes a ferry (P5).
func New(c api.Config) (*Ferry, api.Errno) {
	if e := Check(c); e != api.OK {
		return nil, e
	}
	return &Ferry{config: c, seats: make([]*client.Client, c.Clients), disk: make([]byte, c.Size)}, api.OK
}

// Fate says what a job to come will meet (P8).
func (x *Ferry) Fate(delay int, fails bool, part int) api.Errno { return api.OK }

// Stop lets nobody in and reads nothing more (P8).
func (x *Ferry) Stop() {
	x.stopped = true
}

// Disk tells what the disk has (P10).
func (x *Ferry) Disk() string {
	return string(x.disk)
}

// Crash tells what would be left (P10).
func (x *Ferry) Crash(keep string) string { return "" }

// Log tells what has been done (P10).
func (x *Ferry) Log() []api.Entry { return nil }

// Done tells whether all has come to its end (P8).
func (x *Ferry) Done() bool { return false }
