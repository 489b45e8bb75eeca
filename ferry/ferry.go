// Package ferry: many clients, one disk, and nobody waits for ever: see DOC.md.
package ferry

import (
	"slices"

	"ferry/api"
	"ferry/client"
	"ferry/disk"
	"ferry/heap"
	"ferry/job"
)

// Ferry serves a disk to clients.
type Ferry struct {
	config     api.Config
	seats      []*client.Client // nil where nobody sits
	came       int              // how many clients there have been
	accepted   int              // how many requests have got a number
	dispatched int              // how many jobs have been dispatched
	clock      int
	stopped    bool
	turn       turn
	fates      []job.Fate // of the jobs to come
	flight     heap.Heap[*job.Job]
	disk       *disk.Disk
	log        []api.Entry
}

// New makes a ferry (P5).
func New(c api.Config) (*Ferry, api.Errno) {
	if e := Check(c); e != api.OK {
		return nil, e
	}
	return &Ferry{config: c, seats: make([]*client.Client, c.Clients), disk: disk.New(c.Size)}, api.OK
}

// Stop lets nobody in and reads nothing more (P8).
func (x *Ferry) Stop() {
	x.stopped = true
}

// Done tells whether all has come to its end (P8).
func (x *Ferry) Done() bool {
	if !x.stopped || x.flight.Len() > 0 {
		return false
	}
	for c := range x.seated() {
		if _, waits := c.First(); waits {
			return false
		}
	}
	return true
}

// Disk tells what the disk has (P10).
func (x *Ferry) Disk() string {
	return x.disk.Read(0, x.config.Size)
}

// Crash tells what would be left (P10).
func (x *Ferry) Crash(keep string) string {
	return x.disk.Crash(keep)
}

// Log tells what has been done (P10).
func (x *Ferry) Log() []api.Entry {
	return slices.Clone(x.log)
}
