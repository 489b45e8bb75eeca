package ferry_test

import (
	"strings"
	"testing"

	"ferry/api"
	"ferry/ferry"
)

func begun(t *testing.T, c api.Config) *ferry.Ferry {
	t.Helper()
	x, e := ferry.New(c)
	if x == nil || e != api.OK {
		t.Fatalf("P5: New(%+v) = %v, %d", c, x, e)
	}
	return x
}

func wantConnect(t *testing.T, x *ferry.Ferry, weight, want int, err api.Errno) {
	t.Helper()
	if u, e := x.Connect(weight); u != want || e != err {
		t.Errorf("P5: Connect(%d) = %d, %d, want %d, %d", weight, u, e, want, err)
	}
}

func wantSend(t *testing.T, x *ferry.Ferry, u int, s string, err api.Errno) {
	t.Helper()
	if e := x.Send(u, s); e != err {
		t.Errorf("P6: Send(%d, %.40q) = %d, want %d", u, s, e, err)
	}
}

func wantTake(t *testing.T, x *ferry.Ferry, u, n int, want string, err api.Errno) {
	t.Helper()
	if s, e := x.Take(u, n); s != want || e != err {
		t.Errorf("P6: Take(%d, %d) = %q, %d, want %q, %d", u, n, s, e, want, err)
	}
}

func wantHang(t *testing.T, x *ferry.Ferry, u int, err api.Errno) {
	t.Helper()
	if e := x.Hang(u); e != err {
		t.Errorf("P7: Hang(%d) = %d, want %d", u, e, err)
	}
}

func wantStatus(t *testing.T, x *ferry.Ferry, u int, want api.Status) {
	t.Helper()
	for range 2 {
		if s, e := x.Client(u); s != want || e != api.OK {
			t.Errorf("P9: Client(%d) = %+v, %d, want %+v", u, s, e, want)
		}
	}
}

// wantNobody asks every call that is about a client, with other errors beside that there is none.
func wantNobody(t *testing.T, x *ferry.Ferry, numbers ...int) {
	t.Helper()
	for _, u := range numbers {
		wantSend(t, x, u, "", api.ErrClient)
		wantSend(t, x, u, strings.Repeat("x", api.MaxSocket+1), api.ErrClient)
		wantTake(t, x, u, 9, "", api.ErrClient)
		wantTake(t, x, u, -1, "", api.ErrClient)
		wantHang(t, x, u, api.ErrClient)
		if s, e := x.Client(u); s != (api.Status{}) || e != api.ErrClient {
			t.Errorf("P9: Client(%d) = %+v, %d, want ErrClient", u, s, e)
		}
	}
}

// sat is a ferry with a client in each seat.
func sat(t *testing.T, c api.Config) *ferry.Ferry {
	t.Helper()
	x := begun(t, c)
	for u := range c.Clients {
		wantConnect(t, x, 1, u, api.OK)
	}
	return x
}

func TestNewOfNoConfiguration(t *testing.T) {
	for _, f := range fields() {
		for _, n := range append([]int{f.least - 1, f.most + 1, 0, -1}, far...) {
			c := good
			*f.of(&c) = n
			if x, e := ferry.New(c); x != nil || e != api.ErrConfig {
				t.Errorf("P5: New(%+v) = %v, %d, want ErrConfig", c, x, e)
			}
		}
	}
	if x, e := ferry.New(api.Config{}); x != nil || e != api.ErrConfig {
		t.Errorf("P5: New of nothing = %v, %d, want ErrConfig", x, e)
	}
}

func TestNewHasNothing(t *testing.T) {
	for size := 4; size <= 256; size += 4 {
		c := good
		c.Size = size
		x := begun(t, c)
		wantNobody(t, x, append([]int{-1, 0, 1, 2}, far...)...)
		if got := x.Disk(); got != strings.Repeat("\x00", size) {
			t.Errorf("P5: the disk of %d bytes is %q", size, got)
		}
	}
}

func TestConnectWeights(t *testing.T) {
	x := begun(t, good)
	numbers := 0
	try := func(weight int) {
		if weight < 1 || weight > 4 {
			wantConnect(t, x, weight, 0, api.ErrArg)
			return
		}
		wantConnect(t, x, weight, numbers, api.OK)
		wantHang(t, x, numbers, api.OK)
		numbers++
	}
	for weight := -300; weight <= 300; weight++ {
		try(weight)
	}
	for _, weight := range far {
		try(weight)
	}
}

func TestConnectUntilFull(t *testing.T) {
	for clients := 1; clients <= api.MaxClients; clients++ {
		c := good
		c.Clients = clients
		x := sat(t, c)
		for range 2 {
			wantConnect(t, x, 1, 0, api.ErrFull)
			wantConnect(t, x, 4, 0, api.ErrFull)
			wantConnect(t, x, 0, 0, api.ErrArg)
			wantConnect(t, x, 5, 0, api.ErrArg)
		}
		next := clients
		for _, u := range []int{clients / 2, 0, clients - 1} {
			if x.Hang(u) != api.OK {
				continue
			}
			wantConnect(t, x, 4, next, api.OK)
			wantConnect(t, x, 1, 0, api.ErrFull)
			wantNobody(t, x, u, next+1)
			wantStatus(t, x, next, api.Status{Tokens: 4})
			next++
		}
	}
}

func TestConnectBehindStop(t *testing.T) {
	x := begun(t, good)
	wantConnect(t, x, 1, 0, api.OK)
	for range 2 {
		x.Stop()
		for _, weight := range append([]int{0, 1, 4, 5, -1}, far...) {
			wantConnect(t, x, weight, 0, api.ErrStopped)
		}
	}
	wantHang(t, x, 0, api.OK)
	wantConnect(t, x, 1, 0, api.ErrStopped)
	full := sat(t, good)
	full.Stop()
	wantConnect(t, full, 1, 0, api.ErrStopped)
	wantConnect(t, full, 0, 0, api.ErrStopped)
}

// TestSendToTheByte: what was read makes room for as many bytes again.
func TestSendToTheByte(t *testing.T) {
	for _, piece := range []int{1, 2, 3, 7, 100, 1023, 1024} {
		x := begun(t, good)
		wantConnect(t, x, 1, 0, api.OK)
		left := 1024
		for ; left >= piece; left -= piece {
			wantSend(t, x, 0, strings.Repeat("x", piece), api.OK)
		}
		wantSend(t, x, 0, strings.Repeat("x", left+1), api.ErrLong)
		wantSend(t, x, 0, strings.Repeat("x", left), api.OK)
		wantStatus(t, x, 0, api.Status{Unread: 1024, Tokens: 4})
		wantSend(t, x, 0, "x", api.ErrLong)
		wantSend(t, x, 0, strings.Repeat("x", 1<<20), api.ErrLong)
		wantSend(t, x, 0, "", api.OK)
		wantStatus(t, x, 0, api.Status{Unread: 1024, Tokens: 4})
	}
	x := begun(t, good)
	wantConnect(t, x, 1, 0, api.OK)
	wantSend(t, x, 0, strings.Repeat("x", 1025), api.ErrLong)
	wantStatus(t, x, 0, api.Status{Tokens: 4})
	wantSend(t, x, 0, strings.Repeat("FERRYb", 170)+"FERR", api.OK)
	wantSend(t, x, 0, "Y", api.ErrLong)
	x.Tick()
	wantStatus(t, x, 0, api.Status{Unread: 1024 - 27*6, Tokens: 4, Out: 27})
	wantSend(t, x, 0, strings.Repeat("Y", 27*6+1), api.ErrLong)
	wantSend(t, x, 0, strings.Repeat("Y", 27*6), api.OK)
	wantSend(t, x, 0, "Y", api.ErrLong)
}

// TestSendCutAnywhere: what is heard does not hang on where the bytes were cut.
func TestSendCutAnywhere(t *testing.T) {
	s := "FERRY\xffFERRYaiqg" + bytesOf([]said{ask(9, 0, 258, 0, 0, 22), write(0, 3, 64, "QQQQ", 28), ask(0, 0, 3, 1, 4, 22), write(2, 3, 0, "FERRYag\x00", 22)})
	heard := "NYI\x40\x00\x08\x00UqGR\x16\x02\x01R\x1c\x03\x00R\x16\x03\x00R\x16\x03\x00"
	for cut := range len(s) + 1 {
		for second := cut; second <= min(len(s), cut+14); second++ {
			x := begun(t, good)
			wantConnect(t, x, 1, 0, api.OK)
			got := ""
			for _, piece := range []string{s[:cut], s[cut:second], s[second:]} {
				wantSend(t, x, 0, piece, api.OK)
				x.Tick()
				some, _ := x.Take(0, 999)
				got += some
			}
			if got != heard {
				t.Errorf("P6: cut at %d and %d: heard %q, want %q", cut, second, got, heard)
			}
			wantStatus(t, x, 0, api.Status{Phase: 2, Tokens: 4})
		}
	}
}

// TestSendByBytes: a message is read in the tick behind its last byte, not before.
func TestSendByBytes(t *testing.T) {
	x := begun(t, good)
	wantConnect(t, x, 1, 0, api.OK)
	for _, m := range []struct {
		said  string
		phase int
		heard string
	}{
		{"FERRYb", 0, "N"}, {"FERRYa", 1, "Y"}, {"i", 1, "I\x40\x00\x08\x00"}, {"g", 2, "G"},
		{head(6, 0, 1, 0, 0), 2, "R\x16\x01\x00"}, {write(0, 1, 60, "abcdefgh", 28).bytes, 2, "R\x1c\x01\x00"},
	} {
		before, _ := x.Client(0)
		for i := range len(m.said) - 1 {
			wantSend(t, x, 0, m.said[i:i+1], api.OK)
			x.Tick()
			wantStatus(t, x, 0, api.Status{Phase: before.Phase, Unread: i + 1, Tokens: 4})
		}
		wantSend(t, x, 0, m.said[len(m.said)-1:], api.OK)
		x.Tick()
		wantStatus(t, x, 0, api.Status{Phase: m.phase, Tokens: 4, Out: len(m.heard)})
		wantTake(t, x, 0, 99, m.heard, api.OK)
	}
}

func TestTake(t *testing.T) {
	heard := "NNYUxI\x40\x00\x08\x00G"
	for n := 1; n <= len(heard)+1; n++ {
		x := begun(t, good)
		wantConnect(t, x, 1, 0, api.OK)
		wantTake(t, x, 0, n, "", api.OK)
		wantSend(t, x, 0, "FERRYbFERRYbFERRYaxig", api.OK)
		wantTake(t, x, 0, n, "", api.OK)
		x.Tick()
		for rest := heard; rest != ""; {
			wantTake(t, x, 0, 0, "", api.OK)
			wantTake(t, x, 0, -1, "", api.ErrArg)
			wantTake(t, x, 0, -1<<63, "", api.ErrArg)
			wantStatus(t, x, 0, api.Status{Phase: 2, Tokens: 4, Out: len(rest)})
			some := min(n, len(rest))
			wantTake(t, x, 0, n, rest[:some], api.OK)
			rest = rest[some:]
		}
		wantTake(t, x, 0, n, "", api.OK)
		wantTake(t, x, 0, 1<<63-1, "", api.OK)
	}
	x := begun(t, good)
	wantConnect(t, x, 1, 0, api.OK)
	wantSend(t, x, 0, "FERRYb", api.OK)
	x.Tick()
	wantTake(t, x, 0, 1<<63-1, "N", api.OK)
}

// TestFullOutbox: there must be room for 6 bytes ahead of each message, however few its reply takes.
func TestFullOutbox(t *testing.T) {
	for out := 12; out <= 40; out++ {
		c := good
		c.Out = out
		x := begun(t, c)
		wantConnect(t, x, 1, 0, api.OK)
		wantSend(t, x, 0, strings.Repeat("FERRYb", 60), api.OK)
		read := out - 5
		for range 2 {
			x.Tick()
			wantStatus(t, x, 0, api.Status{Unread: 6 * (60 - read), Tokens: 4, Out: read})
		}
		wantTake(t, x, 0, 3, "NNN", api.OK)
		x.Tick()
		wantStatus(t, x, 0, api.Status{Unread: 6 * (57 - read), Tokens: 4, Out: read})
	}
}

// TestFullOutboxHoldsAll: of one without room neither a reply, nor a BYE, nor what closes is read.
func TestFullOutboxHoldsAll(t *testing.T) {
	c := good
	c.Out = 12
	for _, next := range []string{"i", "g", "!", "xg"} {
		x := begun(t, c)
		wantConnect(t, x, 1, 0, api.OK)
		wantSend(t, x, 0, "FERRYaxxx"+next, api.OK)
		for range 3 {
			x.Tick()
			wantStatus(t, x, 0, api.Status{Phase: 1, Unread: len(next), Tokens: 4, Out: 7})
		}
		wantTake(t, x, 0, 1, "Y", api.OK)
		x.Tick()
		switch next {
		case "i":
			wantStatus(t, x, 0, api.Status{Phase: 1, Tokens: 4, Out: 11})
			wantTake(t, x, 0, 99, "UxUxUxI\x40\x00\x08\x00", api.OK)
		case "g":
			wantStatus(t, x, 0, api.Status{Phase: 2, Tokens: 4, Out: 7})
			wantTake(t, x, 0, 99, "UxUxUxG", api.OK)
		case "!":
			wantNobody(t, x, 0)
		case "xg":
			wantStatus(t, x, 0, api.Status{Phase: 1, Unread: 1, Tokens: 4, Out: 8})
			wantTake(t, x, 0, 99, "UxUxUxUx", api.OK)
		}
	}
	for _, next := range []string{head(5, 0, 2, 0, 0), head(0, 0, 2, 0, 9), "nine more"} {
		x := begun(t, c)
		wantConnect(t, x, 1, 0, api.OK)
		wantSend(t, x, 0, "FERRYag"+head(9, 0, 1, 0, 0)+head(9, 0, 1, 0, 0)+next, api.OK)
		for range 3 {
			x.Tick()
			wantStatus(t, x, 0, api.Status{Phase: 2, Unread: 9, Tokens: 4, Out: 10})
		}
		wantTake(t, x, 0, 3, "YGR", api.OK)
		x.Tick()
		wantStatus(t, x, 0, api.Status{Phase: 2, Unread: 9, Tokens: 4, Out: 7})
		wantTake(t, x, 0, 1, "\x16", api.OK)
		x.Tick()
		if next[1] == api.Bye {
			wantStatus(t, x, 0, api.Status{Phase: 3, Tokens: 4, Out: 6})
		} else {
			wantNobody(t, x, 0)
		}
	}
}
