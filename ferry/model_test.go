package ferry_test

import (
	"slices"
	"strings"

	"ferry/api"
	"ferry/ferry"
)

// model is a second ferry, as plain as the document's words: one thing behind the other, texts and lists alone.
type model struct {
	c                        api.Config
	seats                    []*modelClient
	came, numbers, now, seat int
	open, stopped            bool
	fates                    []modelFate
	jobs                     []modelJob // in the order of dispatch
	disk                     string
	writes                   []modelWrite // all that ever were, in order
	log                      []api.Entry
}

type modelClient struct {
	number, weight, phase, tokens, deficit, served int
	sent, outbox                                   string
	queue                                          []modelRequest
}

type modelRequest struct {
	api.Message
	number int
}

type modelFate struct {
	delay int
	fails bool
	part  int
}

type modelJob struct {
	modelFate
	of  *modelClient
	row []modelRequest
	due int
}

// modelWrite is a sector that was written, and what has become of it.
type modelWrite struct {
	offset int
	sector string
	state  int
}

const (
	cached = iota
	durable
	overtaken // by one that was durable at once
)

func newModel(c api.Config) *model {
	return &model{c: c, seats: make([]*modelClient, c.Clients), disk: strings.Repeat("\x00", c.Size)}
}

func (x *model) find(u int) *modelClient {
	for _, c := range x.seats {
		if c != nil && c.number == u {
			return c
		}
	}
	return nil
}

func (x *model) connect(weight int) (int, api.Errno) {
	if x.stopped {
		return 0, api.ErrStopped
	}
	if weight < 1 || weight > 4 {
		return 0, api.ErrArg
	}
	for i, c := range x.seats {
		if c == nil {
			x.seats[i] = &modelClient{number: x.came, weight: weight, tokens: x.c.Burst}
			x.came++
			return x.came - 1, api.OK
		}
	}
	return 0, api.ErrFull
}

func (x *model) send(u int, s string) api.Errno {
	c := x.find(u)
	if c == nil || c.phase == 4 {
		return api.ErrClient
	}
	if len(c.sent)+len(s) > 1024 {
		return api.ErrLong
	}
	c.sent += s
	return api.OK
}

func (x *model) take(u, n int) (string, api.Errno) {
	c := x.find(u)
	if c == nil {
		return "", api.ErrClient
	}
	if n < 0 {
		return "", api.ErrArg
	}
	s := c.outbox[:min(n, len(c.outbox))]
	c.outbox = c.outbox[len(s):]
	x.end()
	return s, api.OK
}

func (x *model) hang(u int) api.Errno {
	c := x.find(u)
	if c == nil {
		return api.ErrClient
	}
	c.close()
	x.end()
	return api.OK
}

func (x *model) fate(delay int, fails bool, part int) api.Errno {
	if delay < 1 || delay > 16 || part < 0 {
		return api.ErrArg
	}
	if len(x.fates) == 64 {
		return api.ErrLong
	}
	x.fates = append(x.fates, modelFate{delay, fails, part})
	return api.OK
}

func (x *model) client(u int) (api.Status, api.Errno) {
	c := x.find(u)
	if c == nil {
		return api.Status{}, api.ErrClient
	}
	return api.Status{
		Phase: c.phase, Unread: len(c.sent), Queued: len(c.queue), Flying: len(x.flying(c)),
		Tokens: c.tokens, Deficit: c.deficit, Out: len(c.outbox), Served: c.served,
	}, api.OK
}

func (x *model) done() bool {
	for _, c := range x.seats {
		if c != nil && len(c.queue) > 0 {
			return false
		}
	}
	return x.stopped && len(x.jobs) == 0
}

// flying is what a client has in flight, in the order of dispatch.
func (x *model) flying(c *modelClient) []modelRequest {
	var out []modelRequest
	for _, j := range x.jobs {
		if j.of == c {
			out = append(out, j.row...)
		}
	}
	return out
}

func (x *model) end() {
	for i, c := range x.seats {
		if c == nil || len(x.flying(c)) > 0 {
			continue
		}
		if c.phase == 4 || c.phase == 3 && len(c.queue) == 0 && c.outbox == "" {
			x.seats[i] = nil
			x.open = x.open && x.seat != i
		}
	}
}

func (x *model) tick() {
	x.now++
	for _, c := range x.seats {
		if c != nil {
			c.tokens = min(c.tokens+x.c.Rate, x.c.Burst)
		}
	}
	for _, c := range x.seats {
		for c != nil && !x.stopped && c.phase < 3 && x.readOne(c) {
		}
	}
	for x.finishOne() {
	}
	x.turns()
	x.end()
}

func (c *modelClient) close() {
	c.phase, c.sent, c.outbox, c.queue = 4, "", "", nil
}

func replyBytes(m api.Message) int {
	if m.Kind == api.Read {
		return 4 + m.Length
	}
	return 4
}

func (x *model) room(c *modelClient, n int) bool {
	n += len(c.outbox)
	for _, r := range x.flying(c) {
		n += replyBytes(r.Message)
	}
	return n <= x.c.Out
}

func (x *model) readOne(c *modelClient) bool {
	room := 6
	if len(c.queue) > 0 {
		room += replyBytes(c.queue[0].Message)
	}
	m, n := x.first(c)
	if n == 0 || !x.room(c, room) || len(c.queue) >= x.c.Queue {
		return false
	}
	c.sent = c.sent[n:]
	x.hear(c, m)
	return true
}

// first finds the shortest piece in which a message stands; what is not answered is put ahead of it, so that its cookies are in use.
func (x *model) first(c *modelClient) (api.Message, int) {
	open := slices.Concat(x.flying(c), c.queue)
	var ahead strings.Builder
	for _, m := range open {
		ahead.WriteString(head(m.Kind, m.Flag, m.Cookie, m.Offset, m.Length) + m.Data)
	}
	for n := 1; n <= len(c.sent); n++ {
		if l, _ := ferry.Decode(x.c, c.phase, ahead.String()+c.sent[:n]); len(l) > len(open) {
			return l[len(open)], n
		}
	}
	return api.Message{}, 0
}

func (x *model) hear(c *modelClient, m api.Message) {
	switch {
	case m.What == api.Greeting && m.Name == "a":
		c.outbox, c.phase = c.outbox+"Y", 1
	case m.What == api.Greeting:
		c.outbox += "N"
	case m.What == api.Option && m.Name == "g":
		c.outbox, c.phase = c.outbox+"G", 2
	case m.What == api.Option && m.Name == "i":
		c.outbox += "I" + twoBytes(x.c.Size) + twoBytes(x.c.Max)
	case m.What == api.Option:
		c.outbox += "U" + m.Name
	case m.What == api.Closing:
		c.close()
	case m.Err != 0:
		c.outbox += reply(m.Err, m.Cookie, "")
	case m.Kind == api.Bye:
		c.phase = 3
	default:
		c.queue = append(c.queue, modelRequest{m, x.numbers})
		x.numbers++
	}
}

// finishOne does the job that is due first; of several it is the one that stands first in the list.
func (x *model) finishOne() bool {
	best := -1
	for i, j := range x.jobs {
		if j.due <= x.now && (best < 0 || j.due < x.jobs[best].due) {
			best = i
		}
	}
	if best < 0 {
		return false
	}
	j := x.jobs[best]
	x.jobs = slices.Delete(x.jobs, best, best+1)
	left := 1 << 30
	if j.fails {
		left = j.part
	} else if j.row[0].Kind == api.Flush {
		x.mark(cached, durable, 0, x.c.Size)
	}
	for _, r := range j.row {
		left = x.do(j, r, left)
	}
	for _, r := range j.row {
		x.tell(j, r)
	}
	return true
}

// do writes at most so many sectors, and tells how many are left for the next.
func (x *model) do(j modelJob, r modelRequest, left int) int {
	if r.Kind == api.Read || r.Kind == api.Flush {
		return left
	}
	for at := 0; at < r.Length && left > 0; at += 4 {
		sector := "\x00\x00\x00\x00"
		if r.Kind == api.Write {
			sector = r.Data[at : at+4]
		}
		x.disk = x.disk[:r.Offset+at] + sector + x.disk[r.Offset+at+4:]
		state := cached
		if r.Flag == 1 && !j.fails {
			state = durable
			x.mark(cached, overtaken, r.Offset+at, r.Offset+at+4)
		}
		x.writes = append(x.writes, modelWrite{r.Offset + at, sector, state})
		left--
	}
	return left
}

// mark lets something become of all writes in a range of which this had become before.
func (x *model) mark(before, now, from, to int) {
	for i, w := range x.writes {
		if w.state == before && from <= w.offset && w.offset < to {
			x.writes[i].state = now
		}
	}
}

// crash goes through all that was ever written: of one sector, what is durable stands ahead of what is cached.
func (x *model) crash(keep string) string {
	left := []byte(strings.Repeat("\x00", x.c.Size))
	for _, w := range x.writes {
		kept := w.state == durable
		if w.state == cached && keep != "" {
			kept, keep = keep[0] == '1', keep[1:]
		}
		if kept {
			copy(left[w.offset:], w.sector)
		}
	}
	return string(left)
}

func (x *model) tell(j modelJob, r modelRequest) {
	err, data := 0, ""
	if j.fails {
		err = 5
	} else if r.Kind == api.Read {
		data = x.disk[r.Offset : r.Offset+r.Length]
	}
	x.log = append(x.log, api.Entry{Client: j.of.number, Cookie: r.Cookie, Kind: r.Kind, Flag: r.Flag, Offset: r.Offset, Length: r.Length, Err: err})
	if j.of.phase != 4 {
		j.of.outbox += reply(err, r.Cookie, data)
	}
}

func (x *model) turns() {
	for gone := 0; len(x.jobs) < x.c.Workers && gone < x.c.Clients+1; {
		c := x.seats[x.seat]
		if c != nil && !x.open {
			c.deficit += c.weight * x.c.Quantum
			x.open = true
		}
		if c != nil && x.free(c) && cost(c.queue[0]) <= c.deficit {
			x.dispatch(c)
			gone = 0
			continue
		}
		if c != nil && !x.free(c) {
			c.deficit = 0
		}
		x.open, x.seat = false, (x.seat+1)%x.c.Clients
		gone++
	}
}

func cost(r modelRequest) int {
	if r.Kind == api.Flush {
		return 4
	}
	return r.Length
}

// touch compares sector by sector.
func touch(a, b modelRequest) bool {
	if a.Kind == api.Flush || b.Kind == api.Flush || a.Kind == api.Read && b.Kind == api.Read {
		return false
	}
	for i := a.Offset; i < a.Offset+a.Length; i += 4 {
		for k := b.Offset; k < b.Offset+b.Length; k += 4 {
			if i == k {
				return true
			}
		}
	}
	return false
}

func (x *model) ready(c *modelClient) bool {
	return len(c.queue) > 0 && c.tokens >= 1 && x.room(c, replyBytes(c.queue[0].Message))
}

func (x *model) held(c *modelClient) bool {
	r := c.queue[0]
	for _, j := range x.jobs {
		for _, o := range j.row {
			if touch(r, o) {
				return true
			}
		}
	}
	for _, o := range x.seats {
		if o != nil && o != c && x.ready(o) && o.queue[0].number < r.number && touch(r, o.queue[0]) {
			return true
		}
	}
	return false
}

func (x *model) free(c *modelClient) bool {
	return x.ready(c) && !x.held(c)
}

// dispatch lays the job into the list with its first request: what it takes along is in flight at once.
func (x *model) dispatch(c *modelClient) {
	f := modelFate{delay: 1}
	if len(x.fates) > 0 {
		f, x.fates = x.fates[0], x.fates[1:]
	}
	x.jobs = append(x.jobs, modelJob{modelFate: f, of: c, due: x.now + f.delay})
	j := &x.jobs[len(x.jobs)-1]
	for bytes := 0; ; {
		r := c.queue[0]
		c.queue = c.queue[1:]
		c.tokens--
		c.deficit -= cost(r)
		c.served += cost(r)
		j.row = append(j.row, r)
		bytes += r.Length
		if r.Kind == api.Flush || !x.free(c) {
			return
		}
		n := c.queue[0]
		if n.Kind != r.Kind || n.Flag != r.Flag || n.Offset != r.Offset+r.Length || cost(n) > c.deficit || bytes+n.Length > x.c.Max {
			return
		}
	}
}
