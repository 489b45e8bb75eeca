package ferry_test

import (
	"math/rand/v2"
	"slices"
	"strings"
	"testing"

	"ferry/api"
	"ferry/ferry"
)

// question is a request on its way, with a cookie that no other has.
type question struct {
	of, end   int // whose it is, and where it ends in what that one says
	ask       api.Entry
	data      string
	ahead     int // how many replies had been taken when its last byte was sent
	answers   int
	err       int
	told      string
	knowsSent bool
}

// crowd is several clients who ask without end, cut what they say anywhere, and take what they hear now and then.
type crowd struct {
	t         *testing.T
	r         *rand.Rand
	c         api.Config
	x         *ferry.Ferry
	said      []string // all that each of them has to say
	sent      []int    // how much of that is sent
	heard     []string // what was taken and is no whole reply yet
	questions []*question
	taken     []int // the cookies of the replies, in the order in which they were taken
}

func newCrowd(t *testing.T, seed uint64) *crowd {
	r := rand.New(rand.NewPCG(seed, 11))
	most := 4 * (1 + r.IntN(4))
	c := api.Config{
		Size: most + 4*r.IntN(8), Clients: 1 + r.IntN(5), Queue: 1 + r.IntN(6), Max: most, Quantum: most + r.IntN(30),
		Rate: 1 + r.IntN(4), Burst: 1 + r.IntN(6), Workers: 1 + r.IntN(6), Out: most + 4 + r.IntN(60),
	}
	var weights []int
	for range c.Clients {
		weights = append(weights, 1+r.IntN(4))
	}
	return &crowd{
		t: t, r: r, c: c, x: aboard(t, c, weights...),
		said: make([]string, c.Clients), sent: make([]int, c.Clients), heard: make([]string, c.Clients),
	}
}

// ask lets one of them say one more request, without sending it yet.
func (w *crowd) ask() {
	kind := []int{api.Read, api.Read, api.Read, api.Write, api.Write, api.Write, api.Flush, api.Trim, api.Zero}[w.r.IntN(9)]
	q := &question{of: w.r.IntN(w.c.Clients), ask: api.Entry{Cookie: len(w.questions), Kind: kind}}
	if kind == api.Write || kind > api.Flush {
		q.ask.Flag = w.r.IntN(2)
	}
	if kind != api.Flush {
		q.ask.Length = 4 * (1 + w.r.IntN(w.c.Max/4))
		q.ask.Offset = 4 * w.r.IntN((w.c.Size-q.ask.Length)/4+1)
		w.goOnBehind(q)
	}
	if kind == api.Write {
		q.data = strings.Repeat(string([]byte{byte(q.ask.Cookie), byte('a' + q.of), '.', '\n'}), q.ask.Length/4)
	}
	q.ask.Client = q.of
	w.questions = append(w.questions, q)
	w.said[q.of] += head(kind, q.ask.Flag, q.ask.Cookie, q.ask.Offset, q.ask.Length) + q.data
	q.end = len(w.said[q.of])
}

// goOnBehind lays a request often where the last of its kind ends, so that both may be one job.
func (w *crowd) goOnBehind(q *question) {
	if len(w.questions) == 0 || w.r.IntN(2) == 0 {
		return
	}
	last := w.questions[len(w.questions)-1]
	if end := last.ask.Offset + last.ask.Length; last.ask.Kind == q.ask.Kind && end+q.ask.Length <= w.c.Size {
		q.of, q.ask.Flag, q.ask.Offset = last.of, last.ask.Flag, end
	}
}

// send sends a piece of what one of them has to say.
func (w *crowd) send(u, n int) {
	n = min(n, len(w.said[u])-w.sent[u], 1024-statusOf(w.x, u).Unread)
	wantSend(w.t, w.x, u, w.said[u][w.sent[u]:w.sent[u]+n], api.OK)
	w.sent[u] += n
	for _, q := range w.questions {
		if q.of == u && q.end <= w.sent[u] && !q.knowsSent {
			q.ahead, q.knowsSent = len(w.taken), true
		}
	}
}

func (w *crowd) take(u, n int) {
	w.t.Helper()
	s, e := w.x.Take(u, n)
	if e != api.OK {
		w.t.Fatalf("P7: Take(%d, %d) = %d: a client that did nothing wrong is gone", u, n, e)
	}
	w.heard[u] += s
	for len(w.heard[u]) >= 4 {
		b := w.heard[u]
		cookie, n := int(b[2])+256*int(b[3]), 4
		if b[0] != 'R' || cookie >= len(w.questions) || w.questions[cookie].of != u {
			w.t.Fatalf("P11: %d hears %q", u, b)
		}
		q := w.questions[cookie]
		if q.ask.Kind == api.Read && b[1] == 0 {
			n += q.ask.Length
		}
		if len(b) < n {
			return
		}
		q.err, q.told = int(b[1]), b[4:n]
		q.answers++
		w.taken = append(w.taken, cookie)
		w.heard[u] = b[n:]
	}
}

// step lets a little happen.
func (w *crowd) step(failing bool, part int) {
	u := w.r.IntN(w.c.Clients)
	switch w.r.IntN(6) {
	case 0:
		w.ask()
	case 1:
		w.send(u, w.r.IntN(40))
	case 2:
		w.take(u, w.r.IntN(30))
	case 3:
		w.x.Fate(1+w.r.IntN(16)/(1+w.r.IntN(8)), failing && w.r.IntN(3) == 0, part)
	default:
		w.x.Tick()
	}
}

// end lets all be sent, done and taken.
func (w *crowd) end() {
	w.t.Helper()
	for range 20000 {
		for u := range w.c.Clients {
			w.send(u, 1024)
			w.take(u, 999)
		}
		if len(w.taken) >= len(w.questions) {
			return
		}
		w.x.Tick()
	}
	w.t.Fatalf("P12: %d of %d requests are answered", len(w.taken), len(w.questions))
}

// wantRow holds the log against all that was said and told; partial tells what is written by what fails: all or nothing.
func (w *crowd) wantRow(partial bool) {
	t := w.t
	t.Helper()
	disk := []byte(strings.Repeat("\x00", w.c.Size))
	at := map[int]int{}
	for i, e := range w.x.Log() {
		q := w.questions[e.Cookie]
		want := q.ask
		want.Err = q.err
		if _, twice := at[e.Cookie]; twice || e != want {
			t.Fatalf("P11: Log()[%d] = %+v, want %+v, once", i, e, want)
		}
		at[e.Cookie] = i
		piece := disk[e.Offset : e.Offset+e.Length]
		if e.Kind == api.Read && e.Err == 0 && q.told != string(piece) {
			t.Fatalf("P11: %+v tells %q, want %q", e, q.told, piece)
		}
		if e.Kind != api.Read && (e.Err == 0 || partial) {
			clear(piece)
			copy(piece, q.data)
		}
	}
	if s := w.x.Disk(); s != string(disk) {
		t.Fatalf("P11: Disk() = %q, the log makes %q", s, disk)
	}
	for k, q := range w.questions {
		if q.answers != 1 {
			t.Fatalf("P11: %+v was answered %d times", q.ask, q.answers)
		}
		for _, before := range w.taken[:q.ahead] {
			if at[before] > at[k] {
				t.Fatalf("P11: %+v stands ahead of %d, whose reply was taken before", q.ask, before)
			}
		}
	}
}

// TestRow: P11.
func TestRow(t *testing.T) {
	for seed := range uint64(150) {
		w := newCrowd(t, seed)
		failing, part := seed%3 > 0, int(seed%3-1)*99
		for range 600 {
			w.step(failing, part)
		}
		w.end()
		w.wantRow(part > 0)
	}
}

// TestRowFails: the row holds errors; else the test above would tell little of them.
func TestRowFails(t *testing.T) {
	w := newCrowd(t, 2)
	for range 600 {
		w.step(true, 99)
	}
	w.end()
	if !slices.ContainsFunc(w.x.Log(), func(e api.Entry) bool { return e.Err == api.Failed }) {
		t.Error("nothing failed")
	}
}

// patience is the number of ticks within which P12 promises an answer.
func patience(c api.Config, delay int) int {
	return (c.Queue + 1) * (c.Clients + 1) * (5*c.Clients*c.Quantum/4 + 4) * (delay + 2)
}

// bother is what all others do in a tick, beside one who takes its bytes. They have numbers as they come.
type bother func(x *ferry.Ferry, r *rand.Rand, c api.Config, numbers []int, tick int)

// replace lets somebody else come when one of them is gone.
func replace(x *ferry.Ferry, r *rand.Rand, numbers []int) {
	for i, u := range numbers {
		if _, e := x.Client(u); e == api.OK {
			continue
		}
		if n, e := x.Connect(1 + r.IntN(4)); e == api.OK {
			numbers[i] = n
			x.Send(n, "FERRYag")
		}
	}
}

// wish is a request that touches as much as it can.
func wish(c api.Config, cookie int) string {
	return row(api.Write, cookie%2, cookie%60000, 0, c.Max)
}

func bothers() []bother {
	greedy := func(x *ferry.Ferry, _ *rand.Rand, c api.Config, numbers []int, tick int) {
		for _, u := range numbers {
			for x.Send(u, wish(c, tick)) == api.OK && statusOf(x, u).Unread < 400 {
				tick += 1000
			}
			x.Take(u, 999)
		}
	}
	return []bother{
		greedy,
		func(x *ferry.Ferry, r *rand.Rand, c api.Config, numbers []int, tick int) { // nothing is taken
			for _, u := range numbers {
				x.Send(u, wish(c, tick)+get(30000+tick%30000, 0, c.Max))
			}
		},
		func(x *ferry.Ferry, r *rand.Rand, c api.Config, numbers []int, tick int) { // rubbish behind what is right
			for _, u := range numbers {
				x.Send(u, wish(c, tick)+[]string{"", "", "rubbish, and more"}[r.IntN(3)])
			}
		},
		func(x *ferry.Ferry, r *rand.Rand, c api.Config, numbers []int, tick int) { // hanging up, again and again
			greedy(x, r, c, numbers, tick)
			if tick%2 == 0 {
				x.Hang(numbers[r.IntN(len(numbers))])
			}
		},
		func(x *ferry.Ferry, r *rand.Rand, c api.Config, numbers []int, tick int) { // BYE, and bytes that nobody takes for long
			for _, u := range numbers {
				x.Send(u, wish(c, tick)+bye())
				x.Take(u, r.IntN(2)*r.IntN(3))
			}
		},
		func(x *ferry.Ferry, r *rand.Rand, c api.Config, numbers []int, tick int) { // bad requests without end
			for _, u := range numbers {
				x.Send(u, strings.Repeat(head(9, 0, 9, 0, 0), 9)+wish(c, tick))
				x.Take(u, r.IntN(20))
			}
		},
	}
}

// waiting is one who takes its bytes: it asks as fast as it may, and counts how long each request takes.
type waiting struct {
	sent, accepted, answered int
	since                    map[int]int // the ticks in which requests that are not answered yet were accepted
	heard                    string
}

// say uses rising numbers as cookies: they are accepted in that order.
func (w *waiting) say(t *testing.T, x *ferry.Ferry, c api.Config) {
	t.Helper()
	for statusOf(x, 0).Unread < 100 {
		k := w.sent
		wantSend(t, x, 0, []string{wish(c, k), get(k, 0, c.Max), row(api.Zero, 0, k, 0, 4), flush(k)}[k%4], api.OK)
		w.sent++
	}
}

func (w *waiting) listen(t *testing.T, x *ferry.Ferry, c api.Config, now, most int) {
	t.Helper()
	s, e := x.Take(0, 999)
	status := statusOf(x, 0)
	if e != api.OK || status.Phase != 2 {
		t.Fatalf("P7: Take(0, 999) = %d in phase %d", e, status.Phase)
	}
	w.heard += s
	for w.heard != "" {
		w.hear(t, c)
	}
	for ; w.accepted < w.answered+status.Queued+status.Flying; w.accepted++ {
		w.since[w.accepted] = now
	}
	for k, tick := range w.since {
		if now-tick >= most {
			t.Fatalf("P12: %d is not answered within %d ticks", k, most)
		}
	}
}

func (w *waiting) hear(t *testing.T, c api.Config) {
	t.Helper()
	k, n := int(w.heard[2])+256*int(w.heard[3]), 4
	if k%4 == 1 && w.heard[1] == 0 {
		n += c.Max
	}
	if _, waits := w.since[k]; !waits {
		t.Fatalf("P11: %q is heard, but nothing of that cookie waits", w.heard)
	}
	delete(w.since, k)
	w.answered++
	w.heard = w.heard[n:]
}

// TestNobodyWaits: P12. What is asked always touches what all others ask.
func TestNobodyWaits(t *testing.T) {
	configs := []api.Config{
		{Size: 4, Clients: 2, Queue: 1, Max: 4, Quantum: 4, Rate: 1, Burst: 1, Workers: 1, Out: 8},
		{Size: 8, Clients: 2, Queue: 2, Max: 8, Quantum: 8, Rate: 1, Burst: 1, Workers: 4, Out: 12},
		{Size: 8, Clients: 3, Queue: 1, Max: 8, Quantum: 8, Rate: 2, Burst: 3, Workers: 2, Out: 13},
		{Size: 16, Clients: 4, Queue: 3, Max: 8, Quantum: 11, Rate: 16, Burst: 32, Workers: 8, Out: 60},
	}
	for _, c := range configs {
		for n, others := range bothers() {
			for _, delay := range []int{1, 3} {
				r := rand.New(rand.NewPCG(uint64(n), 5))
				x := aboard(t, c, 1)
				most := patience(c, delay)
				w := waiting{since: map[int]int{}}
				numbers := slices.Repeat([]int{-1}, c.Clients-1)
				for tick := range min(2*most, 2500) {
					replace(x, r, numbers)
					others(x, r, c, numbers, tick)
					w.say(t, x, c)
					for x.Fate(delay, tick%5 == 0, tick%3) == api.OK {
					}
					x.Tick()
					w.listen(t, x, c, tick, most)
				}
				if w.answered < 5 {
					t.Errorf("P12: %d requests were answered in all", w.answered)
				}
			}
		}
	}
}

// TestShares: P13, between any two ticks, beside a third who comes and goes.
func TestShares(t *testing.T) {
	for _, weights := range [][2]int{{1, 1}, {1, 2}, {1, 4}, {2, 3}, {3, 4}, {4, 4}, {4, 1}} {
		for quantum := 16; quantum <= 64; quantum += 12 {
			r := rand.New(rand.NewPCG(uint64(quantum), uint64(weights[0]*4+weights[1])))
			c := ring(3)
			c.Quantum, c.Workers = quantum, 1+r.IntN(2)
			x := aboard(t, c, weights[0], weights[1], 4)
			served := [][2]int{{0, 0}}
			for tick := range 160 {
				for u := range 3 {
					for n := 0; statusOf(x, u).Unread < 100 && (u < 2 || tick/20%2 == 0); n++ {
						wantSend(t, x, u, get((100*tick+n)%60000, 0, 4*(1+r.IntN(4))), api.OK)
					}
				}
				x.Tick()
				for u := range 3 {
					x.Take(u, 999)
				}
				served = append(served, [2]int{statusOf(x, 0).Served, statusOf(x, 1).Served})
			}
			wantShares(t, c, weights, served)
		}
	}
}

// wantShares holds the costs against each other, all times both weights and Quantum.
func wantShares(t *testing.T, c api.Config, weights [2]int, served [][2]int) {
	t.Helper()
	most := weights[0]*weights[1]*c.Quantum + c.Max*weights[0] + c.Max*weights[1]
	for to := range served {
		for from := range to {
			first, second := served[to][0]-served[from][0], served[to][1]-served[from][1]
			if d := first*weights[1] - second*weights[0]; d > most || -d > most {
				t.Fatalf("P13: weights %v, Quantum %d: %d and %d bytes are served in ticks %d to %d", weights, c.Quantum, first, second, from, to)
			}
		}
	}
	if last := served[len(served)-1]; last[0] < 10*c.Max || last[1] < 10*c.Max {
		t.Errorf("P13: %v bytes are served in all", last)
	}
}

// TestRates: P13: in any ticks, one behind the other, at most Burst and Rate times as many requests are dispatched.
func TestRates(t *testing.T) {
	for _, rate := range []int{1, 2, 5} {
		for _, burst := range []int{1, 2, 3, 8, 32} {
			c := ring(2)
			c.Rate, c.Burst, c.Workers, c.Quantum = rate, burst, 8, 64
			x := aboard(t, c, 4, 1)
			dispatched := []int{0}
			for tick := range 60 {
				for n := 0; statusOf(x, 0).Unread < 200 && tick%20 < 12; n++ {
					wantSend(t, x, 0, flush(1000*tick+n), api.OK)
				}
				x.Tick()
				x.Take(0, 999)
				s := statusOf(x, 0)
				if s.Tokens < 0 || s.Tokens > burst {
					t.Fatalf("P9: Client(0) = %+v, with Burst %d", s, burst)
				}
				dispatched = append(dispatched, len(x.Log())+s.Flying)
			}
			for to := range dispatched {
				for from := range to {
					if n := dispatched[to] - dispatched[from]; n > burst+rate*(to-from) {
						t.Fatalf("P13: Rate %d, Burst %d: %d requests are dispatched in %d ticks", rate, burst, n, to-from)
					}
				}
			}
			if n := dispatched[len(dispatched)-1]; n < burst+20 {
				t.Errorf("P13: Rate %d, Burst %d: %d requests are dispatched in all", rate, burst, n)
			}
		}
	}
}
