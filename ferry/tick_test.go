package ferry_test

import (
	"strings"
	"testing"

	"ferry/api"
)

// TestStatusOnItsWay: every field, ahead of and behind each tick, from the greeting to the end.
func TestStatusOnItsWay(t *testing.T) {
	x := begun(t, good)
	wantConnect(t, x, 3, 0, api.OK)
	for _, step := range []struct {
		said        string
		from, phase int
		unread, out int
	}{
		{"", 0, 0, 0, 0},
		{"FERRY", 0, 0, 5, 0},
		{"bF", 0, 0, 1, 1},
		{"ERRYai", 0, 1, 0, 7},
		{"x", 1, 1, 0, 9},
		{"gQ", 1, 2, 1, 10},
		{head(9, 0, 1, 0, 0)[1:], 2, 2, 0, 14},
		{head(0, 0, 1, 0, 0)[:8], 2, 2, 8, 14},
		{"\x00" + head(5, 0, 1, 0, 0) + "ab", 2, 3, 2, 18},
		{"c", 3, 3, 3, 18},
	} {
		before, _ := x.Client(0)
		wantSend(t, x, 0, step.said, api.OK)
		wantStatus(t, x, 0, api.Status{Phase: step.from, Unread: before.Unread + len(step.said), Tokens: 4, Out: before.Out})
		x.Tick()
		wantStatus(t, x, 0, api.Status{Phase: step.phase, Unread: step.unread, Tokens: 4, Out: step.out})
	}
	wantTake(t, x, 0, 99, "NYI\x40\x00\x08\x00UxGR\x16\x01\x00R\x16\x01\x00", api.OK)
	wantNobody(t, x, 0)
}

// TestExample is the third of the document's.
func TestExample(t *testing.T) {
	x := begun(t, good)
	wantConnect(t, x, 1, 0, api.OK)
	wantSend(t, x, 0, "FERRYag", api.OK)
	x.Tick()
	wantTake(t, x, 0, 99, "YG", api.OK)
	wantSend(t, x, 0, "Q\x01\x00\x07\x00\x00\x00\x04\x00abcd", api.OK)
	wantSend(t, x, 0, "Q\x00\x00\x08\x00\x00\x00\x04\x00", api.OK)
	x.Tick()
	wantStatus(t, x, 0, api.Status{Phase: 2, Queued: 1, Flying: 1, Tokens: 3, Deficit: 4, Served: 4})
	wantTake(t, x, 0, 99, "", api.OK)
	x.Tick()
	wantTake(t, x, 0, 99, "R\x00\x07\x00", api.OK)
	x.Tick()
	wantTake(t, x, 0, 99, "R\x00\x08\x00abcd", api.OK)
	wantLogged(t, x, 7, 8)
	wantDisk(t, x, "abcd")
	wantCrash(t, x, "", strings.Repeat("\x00", 64))
	wantCrash(t, x, "1", "abcd"+strings.Repeat("\x00", 60))
}

// TestExampleOfOneJob is the fourth of the document's, with what allows for both writes and with less of each.
func TestExampleOfOneJob(t *testing.T) {
	for _, way := range []struct {
		change func(c *api.Config)
		flying int
	}{
		{func(c *api.Config) {}, 2},
		{func(c *api.Config) { c.Burst = 1 }, 1},
		{func(c *api.Config) { c.Max = 4 }, 1},
		{func(c *api.Config) { c.Max, c.Quantum = 4, 4 }, 1},
	} {
		c := good
		way.change(&c)
		x := aboard(t, c, 1)
		wantSend(t, x, 0, put(1, 0, "abcd")+put(2, 4, "efgh"), api.OK)
		x.Tick()
		if s := statusOf(x, 0); s.Flying != way.flying || s.Queued != 2-way.flying {
			t.Errorf("%+v: Client(0) = %+v, want %d in one job", c, s, way.flying)
		}
	}
}

func TestTokensUpToBurst(t *testing.T) {
	for _, rate := range []int{1, 2, 15, 16} {
		for _, burst := range []int{1, 2, 31, 32} {
			c := good
			c.Rate, c.Burst = rate, burst
			x := sat(t, c)
			for range 40 {
				wantStatus(t, x, 0, api.Status{Tokens: burst})
				x.Tick()
			}
			x.Stop()
			x.Tick()
			wantStatus(t, x, 1, api.Status{Tokens: burst})
		}
	}
}

// TestFullQueue: what is read in one tick ends at the queue's end; nothing is dispatched before all are read.
func TestFullQueue(t *testing.T) {
	for most := 1; most <= api.MaxQueue; most++ {
		c := good
		c.Queue, c.Out = most, 256
		x := sat(t, c)
		s := "FERRYag"
		for cookie := range most {
			s += head(9, 0, 99, 0, 0) + head(2, 0, cookie, 0, 0)
		}
		wantSend(t, x, 1, s+"rubbish that closes", api.OK)
		x.Tick()
		status, e := x.Client(1)
		if status.Phase != 2 || status.Unread != 19 || status.Queued+status.Flying != most || status.Out != 2+4*most || e != api.OK {
			t.Errorf("Queue %d: Client(1) = %+v, %d", most, status, e)
		}
	}
}

// TestRoomBesideAQueue: with a request in the queue there must be room for its reply beside the 6 bytes.
func TestRoomBesideAQueue(t *testing.T) {
	for _, first := range []struct {
		said  string
		reply int
	}{{head(0, 0, 1, 0, 8), 12}, {head(0, 0, 1, 0, 4), 8}, {head(2, 0, 1, 0, 0), 4}, {write(0, 1, 0, "abcdefgh", 0).bytes, 4}} {
		for out := 20; out <= 60; out++ {
			c := good
			c.Out = out
			x := sat(t, c)
			wantSend(t, x, 0, "FERRYag", api.OK)
			x.Tick()
			wantTake(t, x, 0, 9, "YG", api.OK)
			wantSend(t, x, 0, first.said+strings.Repeat(head(9, 0, 2, 0, 0), 20), api.OK)
			x.Tick()
			read := 0
			for read < 20 && 4*read+6+first.reply <= out {
				read++
			}
			status, e := x.Client(0)
			if status.Unread != 9*(20-read) || status.Out != 4*read || status.Queued+status.Flying != 1 || e != api.OK {
				t.Errorf("Out %d, first %q: Client(0) = %+v, %d, want %d read", out, first.said, status, e, read)
			}
		}
	}
}

// TestNothingReadBehindStop: what was sent lies there, and all else goes on.
func TestNothingReadBehindStop(t *testing.T) {
	x := sat(t, good)
	wantSend(t, x, 0, "FERRYaxx", api.OK)
	wantSend(t, x, 1, "FERRYbF", api.OK)
	x.Tick()
	wantSend(t, x, 0, "g", api.OK)
	x.Stop()
	wantSend(t, x, 1, "X", api.OK)
	for range 5 {
		x.Tick()
		wantStatus(t, x, 0, api.Status{Phase: 1, Unread: 1, Tokens: 4, Out: 5})
		wantStatus(t, x, 1, api.Status{Unread: 2, Tokens: 4, Out: 1})
	}
	wantTake(t, x, 0, 99, "YUxUx", api.OK)
	wantTake(t, x, 1, 99, "N", api.OK)
	wantSend(t, x, 1, strings.Repeat("x", 1023), api.ErrLong)
	wantSend(t, x, 1, strings.Repeat("x", 1022), api.OK)
	x.Tick()
	wantStatus(t, x, 1, api.Status{Unread: 1024, Tokens: 4})
}

// TestAllAtOnce: eight say much at the same time, and each hears its own.
func TestAllAtOnce(t *testing.T) {
	c := good
	c.Clients, c.Out = 8, 256
	x := sat(t, c)
	for round := range 3 {
		for u := range 8 {
			if round == 0 {
				wantSend(t, x, u, "FERRYa", api.OK)
			}
			wantSend(t, x, u, strings.Repeat(string([]byte{byte('p' + u)}), 50+u), api.OK)
		}
		x.Tick()
		for u := range 8 {
			want := strings.Repeat("U"+string([]byte{byte('p' + u)}), 50+u)
			if round == 0 {
				want = "Y" + want
			}
			wantTake(t, x, u, 999, want, api.OK)
		}
	}
}
