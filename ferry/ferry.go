// Package ferry: many clients, one disk, and nobody waits for ever: see DOC.md.
package ferry

import "ferry/api"

// Ferry serves a disk to clients.
type Ferry struct{}

// New makes a ferry (P5).
func New(c api.Config) (*Ferry, api.Errno) { return nil, api.OK }

// Connect lets a client in (P5).
func (x *Ferry) Connect(weight int) (int, api.Errno) { return 0, api.OK }

// Send hands over bytes that a client sends (P6).
func (x *Ferry) Send(u int, s string) api.Errno { return api.OK }

// Take gives a client bytes from its outbox (P6).
func (x *Ferry) Take(u, n int) (string, api.Errno) { return "", api.OK }

// Hang tells that a client has gone away (P7).
func (x *Ferry) Hang(u int) api.Errno { return api.OK }

// Fate says what a job to come will meet (P8).
func (x *Ferry) Fate(delay int, fails bool, part int) api.Errno { return api.OK }

// Tick lets time go by (P8).
func (x *Ferry) Tick() {}

// Stop lets nobody in and reads nothing more (P8).
func (x *Ferry) Stop() {}

// Client tells how a client stands (P9).
func (x *Ferry) Client(u int) (api.Status, api.Errno) { return api.Status{}, api.OK }

// Disk tells what the disk has (P10).
func (x *Ferry) Disk() string { return "" }

// Crash tells what would be left (P10).
func (x *Ferry) Crash(keep string) string { return "" }

// Log tells what has been done (P10).
func (x *Ferry) Log() []api.Entry { return nil }

// Done tells whether all has come to its end (P8).
func (x *Ferry) Done() bool { return false }
