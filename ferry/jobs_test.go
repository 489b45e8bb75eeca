package ferry_test

import (
	"slices"
	"strings"
	"testing"

	"ferry/api"
	"ferry/ferry"
)

func get(cookie, offset, length int) string { return head(api.Read, 0, cookie, offset, length) }

func put(cookie, offset int, data string) string {
	return head(api.Write, 0, cookie, offset, len(data)) + data
}

func flush(cookie int) string { return head(api.Flush, 0, cookie, 0, 0) }

func bye() string { return head(api.Bye, 0, 999, 0, 0) }

func reply(err, cookie int, data string) string {
	return "R" + string([]byte{byte(err)}) + twoBytes(cookie) + data
}

// aboard is a ferry with clients of these weights, in phase 2, who have taken what they heard. The turn is at seat 0 again.
func aboard(t *testing.T, c api.Config, weights ...int) *ferry.Ferry {
	t.Helper()
	x := begun(t, c)
	for u, weight := range weights {
		wantConnect(t, x, weight, u, api.OK)
		wantSend(t, x, u, "FERRYag", api.OK)
	}
	ticks(x, c.Clients)
	for u := range weights {
		wantTake(t, x, u, 9, "YG", api.OK)
	}
	return x
}

func ticks(x *ferry.Ferry, n int) {
	for range n {
		x.Tick()
	}
}

func wantFate(t *testing.T, x *ferry.Ferry, delay int, fails bool, part int, err api.Errno) {
	t.Helper()
	if e := x.Fate(delay, fails, part); e != err {
		t.Errorf("P8: Fate(%d, %t, %d) = %d, want %d", delay, fails, part, e, err)
	}
}

// wantDisk: noughts behind what is named.
func wantDisk(t *testing.T, x *ferry.Ferry, want string) {
	t.Helper()
	if s := x.Disk(); s != want+strings.Repeat("\x00", max(0, len(s)-len(want))) {
		t.Errorf("P10: Disk() = %q, want %q", s, want)
	}
}

func cookies(l []api.Entry) []int {
	var out []int
	for _, e := range l {
		out = append(out, e.Cookie)
	}
	return out
}

func wantLogged(t *testing.T, x *ferry.Ferry, want ...int) {
	t.Helper()
	if got := cookies(x.Log()); !slices.Equal(got, want) {
		t.Errorf("P10: the log has the cookies %v, want %v", got, want)
	}
}

func wantTaken(t *testing.T, x *ferry.Ferry, u int, want ...string) {
	t.Helper()
	wantTake(t, x, u, 999, strings.Join(want, ""), api.OK)
}

func TestFateArguments(t *testing.T) {
	for delay := -40; delay <= 40; delay++ {
		for _, part := range []int{-1, 0, 1, 16, 17, -1 << 63, 1<<63 - 1} {
			want := api.OK
			if delay < 1 || delay > 16 || part < 0 {
				want = api.ErrArg
			}
			x := begun(t, good)
			wantFate(t, x, delay, true, part, want)
			wantFate(t, x, delay, false, part, want)
		}
	}
	x := aboard(t, good, 1)
	for _, n := range append([]int{0, 17, -1}, far...) {
		wantFate(t, x, n, true, 0, api.ErrArg)
		wantFate(t, x, 1, true, min(n, -1), api.ErrArg)
	}
	wantSend(t, x, 0, put(1, 0, "abcd"), api.OK)
	ticks(x, 2)
	wantTaken(t, x, 0, reply(0, 1, "")) // none of the refused is in the list
}

// TestFateList: 64 fit; a job that is dispatched makes room for one more.
func TestFateList(t *testing.T) {
	x := aboard(t, good, 1)
	for range 64 {
		wantFate(t, x, 2, true, 0, api.OK)
	}
	for range 2 {
		wantFate(t, x, 1, false, 0, api.ErrLong)
		wantFate(t, x, 0, false, 0, api.ErrArg)
		wantFate(t, x, 17, false, 0, api.ErrArg)
		wantFate(t, x, 1, false, -1, api.ErrArg)
	}
	x.Tick()
	wantFate(t, x, 1, false, 0, api.ErrLong)
	for n := range 64 {
		wantSend(t, x, 0, flush(n), api.OK)
		x.Tick()
		if n == 0 {
			wantFate(t, x, 3, false, 0, api.OK)
			wantFate(t, x, 1, false, 0, api.ErrLong)
		}
		x.Tick()
		wantTaken(t, x, 0)
		x.Tick()
		wantTaken(t, x, 0, reply(5, n, ""))
	}
	wantSend(t, x, 0, flush(99), api.OK)
	ticks(x, 3)
	wantTaken(t, x, 0)
	x.Tick()
	wantTaken(t, x, 0, reply(0, 99, ""))
	wantSend(t, x, 0, flush(98), api.OK) // the list is empty now
	ticks(x, 2)
	wantTaken(t, x, 0, reply(0, 98, ""))
}

// TestDelays: a job is done so many ticks behind its dispatch, not one sooner or later.
func TestDelays(t *testing.T) {
	for delay := 1; delay <= 16; delay++ {
		x := aboard(t, good, 1)
		wantFate(t, x, delay, false, 0, api.OK)
		wantSend(t, x, 0, put(7, 8, "abcd"), api.OK)
		x.Tick()
		for waited := range delay {
			wantStatus(t, x, 0, api.Status{Phase: 2, Flying: 1, Tokens: min(4, 3+2*waited), Deficit: 4, Served: 4})
			wantDisk(t, x, "")
			wantLogged(t, x)
			x.Tick()
		}
		wantStatus(t, x, 0, api.Status{Phase: 2, Tokens: 4, Out: 4, Served: 4})
		wantDisk(t, x, "\x00\x00\x00\x00\x00\x00\x00\x00abcd")
		wantLogged(t, x, 7)
		wantTaken(t, x, 0, reply(0, 7, ""))
	}
}

func statusOf(x *ferry.Ferry, u int) api.Status {
	s, _ := x.Client(u)
	return s
}

// wide is a configuration in which little but the document's rules for one job keeps requests back.
func wide(workers int) api.Config {
	return api.Config{Size: 64, Clients: 1, Queue: 8, Max: 16, Quantum: 64, Rate: 16, Burst: 32, Workers: workers, Out: 256}
}

// TestWhichFate: jobs take fates in the order of their dispatch, a job of several requests takes one.
func TestWhichFate(t *testing.T) {
	x := aboard(t, wide(8), 1)
	for delay := 4; delay >= 1; delay-- {
		wantFate(t, x, delay, delay%2 == 0, delay, api.OK)
	}
	wantSend(t, x, 0, put(1, 0, "aaaa")+put(2, 4, "bbbb")+put(3, 16, "cccc")+flush(4)+get(5, 32, 4)+get(6, 36, 4)+get(7, 44, 4), api.OK)
	for _, want := range []string{
		"", // 7 has no fate of its own and is done with 5 and 6
		reply(0, 5, "\x00\x00\x00\x00") + reply(0, 6, "\x00\x00\x00\x00") + reply(0, 7, "\x00\x00\x00\x00"),
		reply(5, 4, ""), reply(0, 3, ""), reply(5, 1, "") + reply(5, 2, ""), "",
	} {
		x.Tick()
		wantTaken(t, x, 0, want)
	}
	wantLogged(t, x, 5, 6, 7, 4, 3, 1, 2)
	wantDisk(t, x, "aaaabbbb\x00\x00\x00\x00\x00\x00\x00\x00cccc")
}

// TestFatesOverClients: the list is one for all clients.
func TestFatesOverClients(t *testing.T) {
	c := wide(3)
	c.Clients = 3
	x := aboard(t, c, 1, 1, 1)
	for delay := 1; delay <= 3; delay++ {
		wantFate(t, x, delay, delay == 2, 0, api.OK)
	}
	for u := range 3 {
		wantSend(t, x, u, flush(10+u), api.OK)
	}
	x.Tick()
	for u, err := range []int{0, 5, 0} {
		x.Tick()
		for other := range 3 {
			if other == u {
				wantTaken(t, x, other, reply(err, 10+u, ""))
			} else {
				wantTaken(t, x, other)
			}
		}
	}
}

// TestDueTogether: at the same time the order of dispatch counts, whatever the delays.
func TestDueTogether(t *testing.T) {
	x := aboard(t, wide(8), 1)
	for tick := range 4 {
		wantFate(t, x, 8-2*tick, false, 0, api.OK)
		wantFate(t, x, 5-tick, false, 0, api.OK)
		wantSend(t, x, 0, flush(2*tick)+flush(2*tick+1), api.OK)
		x.Tick()
	}
	// Due: 0 at 8, 1 at 5, 2 at 7, 3 at 5, 4 at 6, 5 at 5, 6 at 5, 7 at 5, counted from the first tick on.
	for _, want := range [][]int{{}, {1, 3, 5, 6, 7}, {4}, {2}, {0}} {
		before := len(x.Log())
		x.Tick()
		if got := cookies(x.Log())[before:]; !slices.Equal(got, want) {
			t.Errorf("P8: done are %v, want %v", got, want)
		}
	}
}

// TestAnotherOrder: what is due earlier is done earlier, however late it was dispatched.
func TestAnotherOrder(t *testing.T) {
	for _, delays := range [][]int{{1, 2, 3, 4}, {4, 3, 2, 1}, {2, 4, 1, 3}, {3, 3, 1, 1}, {2, 1, 2, 1}, {16, 1, 16, 2}, {5, 5, 5, 5}} {
		x := aboard(t, wide(8), 1)
		s := ""
		order := []int{0, 1, 2, 3}
		for i, delay := range delays {
			wantFate(t, x, delay, false, 0, api.OK)
			s += put(i, 8*i, "abcd")
		}
		slices.SortStableFunc(order, func(a, b int) int { return delays[a] - delays[b] })
		wantSend(t, x, 0, s, api.OK)
		ticks(x, 18)
		wantLogged(t, x, order...)
		want := ""
		for _, i := range order {
			want += reply(0, i, "")
		}
		wantTaken(t, x, 0, want)
	}
}

// along is what is sent at once, and how many requests and bytes of it are the first job.
type along struct {
	name            string
	sent            string
	requests, bytes int
	config          func(c *api.Config)
}

func row(kind, flag, cookie int, ranges ...int) string {
	s := ""
	for i := 0; i < len(ranges); i += 2 {
		s += head(kind, flag, cookie+i/2, ranges[i], ranges[i+1])
		if kind == api.Write {
			s += strings.Repeat("w", ranges[i+1])
		}
	}
	return s
}

func alongs() []along {
	out := []along{
		{name: "a flush ahead of a flush", sent: flush(1) + flush(2), requests: 1, bytes: 4},
		{name: "a flush ahead of a write at 0", sent: flush(1) + row(1, 0, 2, 0, 4), requests: 1, bytes: 4},
		{name: "a write ahead of a flush", sent: row(1, 0, 1, 0, 4) + flush(2), requests: 1, bytes: 4},
		{name: "another flag behind", sent: row(1, 0, 1, 0, 4) + row(1, 1, 2, 4, 4), requests: 1, bytes: 4},
		{name: "another flag ahead", sent: row(3, 1, 1, 0, 4) + row(3, 0, 2, 4, 4), requests: 1, bytes: 4},
		{name: "only so many tokens", sent: row(1, 0, 1, 0, 4, 4, 4, 8, 4), requests: 2, bytes: 8, config: func(c *api.Config) { c.Burst = 2 }},
		{name: "one token", sent: row(0, 0, 1, 0, 4, 4, 4, 8, 4), requests: 1, bytes: 4, config: func(c *api.Config) { c.Burst = 1 }},
		{name: "as much room as two replies need", sent: row(0, 0, 1, 0, 8, 8, 4, 12, 4), requests: 2, bytes: 12, config: func(c *api.Config) { c.Out = 20 }},
		{name: "one byte less than three replies need", sent: row(0, 0, 1, 0, 8, 8, 4, 12, 4), requests: 2, bytes: 12, config: func(c *api.Config) { c.Out = 27 }},
		{name: "as much room as three replies need", sent: row(0, 0, 1, 0, 8, 8, 4, 12, 4), requests: 3, bytes: 16, config: func(c *api.Config) { c.Out = 28 }},
		{name: "Max", sent: row(1, 0, 1, 0, 4, 4, 4, 8, 4), requests: 2, bytes: 8, config: func(c *api.Config) { c.Max, c.Quantum = 8, 64 }},
	}
	for kind := range 5 {
		for flag := range 2 {
			if kind == api.Flush || kind == api.Read && flag == 1 {
				continue
			}
			add := func(name string, requests, bytes int, ranges ...int) {
				out = append(out, along{name: name, sent: row(kind, flag, 1, ranges...), requests: requests, bytes: bytes})
			}
			add("two in a row", 2, 8, 0, 4, 4, 4)
			add("four in a row", 4, 16, 16, 4, 20, 4, 24, 4, 28, 4)
			add("above Max with the fifth", 4, 16, 0, 4, 4, 4, 8, 4, 12, 4, 16, 4)
			add("Max to the byte", 2, 16, 0, 12, 12, 4)
			add("above Max with the second", 1, 12, 0, 12, 12, 8)
			add("a first of Max bytes", 1, 16, 0, 16, 16, 4)
			add("a gap", 1, 4, 0, 4, 8, 4)
			add("backwards", 1, 4, 4, 4, 0, 4)
			add("over one another", 1, 8, 0, 8, 4, 8)
			add("the same again", 1, 4, 8, 4, 8, 4)
			add("what comes behind a gap stays", 2, 8, 0, 4, 4, 4, 12, 4, 8, 4)
			for other := range 5 {
				if other != kind && other != api.Flush && !(other == api.Read && flag == 1) {
					out = append(out, along{name: "another kind", sent: row(kind, flag, 1, 0, 4) + row(other, flag, 2, 4, 4), requests: 1, bytes: 4})
				}
			}
		}
	}
	return out
}

func TestTakesAlong(t *testing.T) {
	for _, a := range alongs() {
		c := wide(1)
		if a.config != nil {
			a.config(&c)
		}
		x := aboard(t, c, 1)
		wantSend(t, x, 0, a.sent, api.OK)
		x.Tick()
		s := statusOf(x, 0)
		want := api.Status{Phase: 2, Queued: s.Queued, Flying: a.requests, Tokens: c.Burst - a.requests, Deficit: 64 - a.bytes, Served: a.bytes}
		if s != want || s.Queued == 0 && s.Flying < 2 {
			t.Errorf("%s: %q: Client(0) = %+v, want %+v", a.name, a.sent, s, want)
		}
		x.Tick()
		wantRow := []int{1, 2, 3, 4}[:a.requests]
		if got := cookies(x.Log()); !slices.Equal(got, wantRow) {
			t.Errorf("%s: done are %v, want %v", a.name, got, wantRow)
		}
	}
}

// TestTakesAlongWhatCanBePaid: the deficit, with which the turn goes on, bounds what goes along.
func TestTakesAlongWhatCanBePaid(t *testing.T) {
	c := wide(2)
	c.Quantum = 16
	x := aboard(t, c, 1)
	wantSend(t, x, 0, put(1, 40, "aaaa")+row(1, 0, 2, 0, 8, 8, 8), api.OK)
	x.Tick()
	wantStatus(t, x, 0, api.Status{Phase: 2, Queued: 1, Flying: 2, Tokens: 30, Deficit: 4, Served: 12})
	y := aboard(t, c, 1)
	wantSend(t, y, 0, put(1, 40, "aaaa")+row(1, 0, 2, 0, 8, 8, 4), api.OK)
	y.Tick()
	wantStatus(t, y, 0, api.Status{Phase: 2, Flying: 3, Tokens: 29, Served: 16})
}

// TestTakesAlongWithAFullOutbox: what lies in the outbox already takes of the room, too.
func TestTakesAlongWithAFullOutbox(t *testing.T) {
	c := wide(1)
	c.Out = 20
	x := aboard(t, c, 1)
	wantSend(t, x, 0, head(9, 0, 9, 0, 0)+head(9, 0, 9, 0, 0)+row(1, 0, 1, 0, 4, 4, 4, 8, 4, 12, 4), api.OK)
	x.Tick()
	wantStatus(t, x, 0, api.Status{Phase: 2, Queued: 1, Flying: 3, Tokens: 29, Deficit: 52, Out: 8, Served: 12})
	x.Tick()
	wantStatus(t, x, 0, api.Status{Phase: 2, Queued: 1, Tokens: 32, Out: 20, Served: 12})
	wantTake(t, x, 0, 3, "R\x16\x09", api.OK)
	x.Tick()
	wantStatus(t, x, 0, api.Status{Phase: 2, Queued: 1, Tokens: 32, Out: 17, Served: 12})
	wantTake(t, x, 0, 1, "\x00", api.OK)
	x.Tick()
	wantStatus(t, x, 0, api.Status{Phase: 2, Flying: 1, Tokens: 31, Deficit: 60, Out: 16, Served: 16})
}

// TestFailedWrites: the first part of a job's sectors, over all its requests, is written; all are answered with 5.
func TestFailedWrites(t *testing.T) {
	for _, part := range []int{0, 1, 2, 3, 4, 5, 1 << 61, 1<<62 + 1, 1<<63 - 1} {
		for _, kind := range []int{api.Write, api.Trim, api.Zero} {
			for flag := range 2 {
				x := aboard(t, wide(1), 1)
				wantSend(t, x, 0, put(1, 0, "abcdefghijklmnop")+put(2, 16, "qrst"), api.OK)
				ticks(x, 3)
				wantTaken(t, x, 0, reply(0, 1, ""), reply(0, 2, ""))
				wantFate(t, x, 1, true, part, api.OK)
				s := row(kind, flag, 3, 0, 8, 8, 4)
				wantSend(t, x, 0, s, api.OK)
				x.Tick()
				wantDisk(t, x, "abcdefghijklmnopqrst")
				x.Tick()
				wantTaken(t, x, 0, reply(5, 3, ""), reply(5, 4, ""))
				n := 4 * min(part, 3)
				written := strings.Repeat("\x00", n)
				if kind == api.Write {
					written = strings.Repeat("w", n)
				}
				wantDisk(t, x, written+"abcdefghijklmnopqrst"[n:])
				l := x.Log()
				want := []api.Entry{{Cookie: 3, Kind: kind, Flag: flag, Length: 8, Err: 5}, {Cookie: 4, Kind: kind, Flag: flag, Offset: 8, Length: 4, Err: 5}}
				if !slices.Equal(l[2:], want) {
					t.Errorf("P10: Log() ends with %+v, want %+v", l[2:], want)
				}
			}
		}
	}
}

// TestPartOfNoFailure: a part without failure keeps nothing back.
func TestPartOfNoFailure(t *testing.T) {
	for part := range 4 {
		x := aboard(t, wide(1), 1)
		wantFate(t, x, 1, false, part, api.OK)
		wantSend(t, x, 0, put(1, 0, "abcdefgh")+put(2, 8, "ijkl"), api.OK)
		ticks(x, 2)
		wantTaken(t, x, 0, reply(0, 1, ""), reply(0, 2, ""))
		wantDisk(t, x, "abcdefghijkl")
	}
}

// TestFailedReadsAndFlushes: the reply is without data, and nothing is written.
func TestFailedReadsAndFlushes(t *testing.T) {
	x := aboard(t, wide(1), 1)
	wantSend(t, x, 0, put(1, 0, "abcdefgh"), api.OK)
	ticks(x, 2)
	wantTaken(t, x, 0, reply(0, 1, ""))
	for _, part := range []int{0, 1, 99} {
		wantFate(t, x, 1, true, part, api.OK)
		wantFate(t, x, 1, true, part, api.OK)
		wantSend(t, x, 0, get(2, 0, 4)+get(3, 4, 4)+flush(4)+get(5, 0, 8), api.OK)
		ticks(x, 4)
		wantTaken(t, x, 0, reply(5, 2, ""), reply(5, 3, ""), reply(5, 4, ""), reply(0, 5, "abcdefgh"))
		wantDisk(t, x, "abcdefgh")
		l := x.Log()
		want := []api.Entry{{Cookie: 2, Length: 4, Err: 5}, {Cookie: 3, Offset: 4, Length: 4, Err: 5}, {Cookie: 4, Kind: api.Flush, Err: 5}, {Cookie: 5, Length: 8}}
		if !slices.Equal(l[len(l)-4:], want) {
			t.Errorf("P10: Log() ends with %+v, want %+v", l[len(l)-4:], want)
		}
	}
}

func TestTrimsAndZeroes(t *testing.T) {
	for _, kind := range []int{api.Trim, api.Zero} {
		for flag := range 2 {
			x := aboard(t, wide(1), 1)
			wantSend(t, x, 0, put(1, 0, "abcdefghijklmnop"), api.OK)
			ticks(x, 2)
			wantSend(t, x, 0, head(kind, flag, 2, 4, 8), api.OK)
			x.Tick()
			wantDisk(t, x, "abcdefghijklmnop")
			x.Tick()
			wantDisk(t, x, "abcd\x00\x00\x00\x00\x00\x00\x00\x00mnop")
			wantSend(t, x, 0, get(3, 0, 16), api.OK)
			ticks(x, 2)
			wantTaken(t, x, 0, reply(0, 1, ""), reply(0, 2, ""), reply(0, 3, "abcd\x00\x00\x00\x00\x00\x00\x00\x00mnop"))
		}
	}
}

// TestAheadAndBehind: a read tells what the writes ahead of it made, and nothing of those behind it, however long each takes.
func TestAheadAndBehind(t *testing.T) {
	for seed := range 81 {
		x := aboard(t, wide(8), 1)
		for n, left := 0, seed; n < 4; n, left = n+1, left/3 {
			wantFate(t, x, 1+2*(left%3), false, 0, api.OK)
		}
		wantSend(t, x, 0, get(1, 0, 8)+put(2, 4, "abcd")+get(3, 4, 8)+put(4, 0, "efghijkl")+get(5, 0, 8), api.OK)
		ticks(x, 22)
		wantTaken(t, x, 0, reply(0, 1, strings.Repeat("\x00", 8)), reply(0, 2, ""), reply(0, 3, "abcd\x00\x00\x00\x00"), reply(0, 4, ""), reply(0, 5, "efghijkl"))
		wantLogged(t, x, 1, 2, 3, 4, 5)
	}
}

// TestReadsNow: a read that is in flight tells what the disk has when it is done: beside it nothing that touches it is written.
func TestReadsNow(t *testing.T) {
	x := aboard(t, wide(8), 1)
	wantFate(t, x, 5, false, 0, api.OK)
	wantFate(t, x, 1, false, 0, api.OK)
	wantSend(t, x, 0, get(1, 0, 8)+put(2, 8, "abcd")+put(3, 4, "efgh"), api.OK)
	ticks(x, 5)
	wantLogged(t, x, 2)
	wantTaken(t, x, 0, reply(0, 2, ""))
	ticks(x, 2)
	wantTaken(t, x, 0, reply(0, 1, strings.Repeat("\x00", 8)), reply(0, 3, ""))
	wantDisk(t, x, "\x00\x00\x00\x00efghabcd")
}

// TestLogIsWhole: every field of every request that is done, by the order in which they are done; what is bad or waits is not in it.
func TestLogIsWhole(t *testing.T) {
	c := wide(2)
	c.Clients = 2
	x := aboard(t, c, 1, 1)
	if l := x.Log(); len(l) != 0 {
		t.Errorf("P10: Log() = %+v, though nothing was done", l)
	}
	wantFate(t, x, 2, true, 1, api.OK)
	wantFate(t, x, 1, false, 0, api.OK)
	wantSend(t, x, 0, head(9, 0, 300, 0, 0)+head(api.Write, 1, 300, 8, 8)+"abcdefgh"+head(api.Zero, 0, 301, 4, 4), api.OK)
	wantSend(t, x, 1, head(api.Trim, 1, 400, 40, 12)+head(api.Read, 0, 401, 60, 4)+flush(402)+head(api.Read, 0, 403, 64, 4)+bye(), api.OK)
	ticks(x, 7)
	want := []api.Entry{
		{Client: 0, Cookie: 301, Kind: api.Zero, Offset: 4, Length: 4},
		{Client: 0, Cookie: 300, Kind: api.Write, Flag: 1, Offset: 8, Length: 8, Err: 5},
		{Client: 1, Cookie: 400, Kind: api.Trim, Flag: 1, Offset: 40, Length: 12},
		{Client: 1, Cookie: 401, Offset: 60, Length: 4},
		{Client: 1, Cookie: 402, Kind: api.Flush},
	}
	for range 2 {
		if l := x.Log(); !slices.Equal(l, want) {
			t.Errorf("P10: Log() = %+v, want %+v", l, want)
		}
	}
}

// TestLogIsNew: P2: lists that came out may be written into, their spare room too, and stay as they are.
func TestLogIsNew(t *testing.T) {
	x := aboard(t, wide(2), 1)
	var kept, copies [][]api.Entry
	for n := range 40 {
		wantSend(t, x, 0, flush(n), api.OK)
		x.Tick()
		first := x.Log()
		copies = append(copies, slices.Clone(first))
		kept = append(kept, first)
		spoilt := x.Log()
		spoilt = spoilt[:cap(spoilt)]
		for i := range spoilt {
			spoilt[i] = api.Entry{Client: -1, Cookie: -1, Err: -1}
		}
		if second := x.Log(); !slices.Equal(first, second) {
			t.Fatalf("P2: Log() = %+v, behind one that was written into %+v", first, second)
		}
		_ = append(x.Log(), api.Entry{Cookie: -2})
	}
	for i := range kept {
		if !slices.Equal(kept[i], copies[i]) {
			t.Errorf("P2: a list that was out became %+v, before %+v", kept[i], copies[i])
		}
	}
	ticks(x, 1)
	if l := x.Log(); len(l) != 40 || l[39].Cookie != 39 {
		t.Errorf("P10: Log() = %+v", l)
	}
}

// TestCookieAgain: the cookie of a request that is done is free, of one in flight it closes.
func TestCookieAgain(t *testing.T) {
	x := aboard(t, wide(2), 1)
	for range 3 {
		wantSend(t, x, 0, flush(7), api.OK)
		ticks(x, 2)
	}
	wantTaken(t, x, 0, strings.Repeat(reply(0, 7, ""), 3))
	wantFate(t, x, 3, false, 0, api.OK)
	wantSend(t, x, 0, flush(7)+flush(8), api.OK)
	ticks(x, 2)
	wantTaken(t, x, 0, reply(0, 8, ""))
	wantSend(t, x, 0, flush(8), api.OK)
	x.Tick()
	if s := statusOf(x, 0); s.Phase != 2 || s.Flying != 2 {
		t.Errorf("P7: Client(0) = %+v, want two in flight", s)
	}
	wantSend(t, x, 0, flush(7), api.OK)
	x.Tick() // in this one 7 is done, but read is what was sent before that
	wantNobody(t, x, 0)
	wantLogged(t, x, 7, 7, 7, 8, 7, 8)
}
