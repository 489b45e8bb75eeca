// Package job is what the disk does at one time: a request, and what could go
// along with it.
package job

import (
	"slices"
	"strings"

	"ferry/api"
	"ferry/client"
	"ferry/disk"
)

// Fate is what a job meets: how many ticks it takes, and, if it fails, how
// many sectors it has written by then.
type Fate struct {
	Delay int
	Fails bool
	Part  int
}

// Job is a row of requests of one client, of one kind and flag, each beginning
// where the one ahead of it ends.
type Job struct {
	client   *client.Client
	requests []client.Request
	fate     Fate
	due      int // the time at which it is done
	order    int // how many jobs were dispatched before it
}

// New makes a job of the first request that waits in the client's queue.
func New(c *client.Client) *Job {
	return &Job{client: c, requests: []client.Request{c.Dispatch()}}
}

// Fits tells whether r may go along: it continues what the job has, and all
// together has at most so many bytes. A flush goes alone: it has no bytes that
// another could continue.
func (j *Job) Fits(r client.Request, most int) bool {
	first, last := j.requests[0], j.requests[len(j.requests)-1]
	return r.Kind != api.Flush && r.Kind == last.Kind && r.Flag == last.Flag &&
		r.Offset == last.End() && r.End()-first.Offset <= most
}

// TakeAlong adds the first request that waits in the client's queue.
func (j *Job) TakeAlong() {
	j.requests = append(j.requests, j.client.Dispatch())
}

// Start lets the job meet its fate, from that time on.
func (j *Job) Start(now, order int, f Fate) {
	j.fate, j.due, j.order = f, now+f.Delay, order
}

// Before is by time, and by the order of dispatch at the same time.
func (j *Job) Before(o *Job) bool {
	return j.due < o.due || j.due == o.due && j.order < o.order
}

// IsDue tells whether the job is done at that time.
func (j *Job) IsDue(now int) bool {
	return j.due <= now
}

// Touches tells whether one of the job's requests touches r.
func (j *Job) Touches(r client.Request) bool {
	return slices.ContainsFunc(j.requests, r.Touches)
}

// through is the flag of what is to be durable as soon as it is answered.
const through = 1

// Do does the job: the disk is changed, the client is answered. It tells what
// the log is to have of it.
func (j *Job) Do(d *disk.Disk) []api.Entry {
	j.change(d)
	var done []api.Entry
	for _, r := range j.requests {
		e := j.entry(r)
		done = append(done, e)
		j.client.Answer(r, e.Err, told(d, e))
	}
	return done
}

// change looks at the first request alone: all have one kind and flag. What
// fails makes nothing durable, whatever was asked for. What has nothing to write
// (a read, or a flush that fails) writes nothing.
func (j *Job) change(d *disk.Disk) {
	first, fine := j.requests[0], !j.fate.Fails
	switch {
	case first.Kind == api.Flush && fine:
		d.Flush()
	case first.Flag == through && fine:
		d.WriteThrough(first.Offset, j.written())
	default:
		d.Write(first.Offset, j.written())
	}
}

// written is what comes onto the disk: of a job that fails only as many
// sectors as its fate says, counted over all its requests.
func (j *Job) written() string {
	s := j.data()
	if j.fate.Fails {
		s = s[:api.Sector*min(j.fate.Part, len(s)/api.Sector)]
	}
	return s
}

func (j *Job) data() string {
	var s strings.Builder
	for _, r := range j.requests {
		switch r.Kind {
		case api.Write:
			s.WriteString(r.Data)
		case api.Trim, api.Zero:
			s.WriteString(strings.Repeat("\x00", r.Length))
		}
	}
	return s.String()
}

func (j *Job) entry(r client.Request) api.Entry {
	e := api.Entry{
		Client: j.client.Number(),
		Cookie: r.Cookie,
		Kind:   r.Kind,
		Flag:   r.Flag,
		Offset: r.Offset,
		Length: r.Length,
	}
	if j.fate.Fails {
		e.Err = api.Failed
	}
	return e
}

// told is what the client hears beside the error: of a read alone, and only if
// there is none.
func told(d *disk.Disk, e api.Entry) string {
	if e.Kind != api.Read || e.Err != api.Fine {
		return ""
	}
	return d.Read(e.Offset, e.Length)
}
