package ferry_test

import (
	"strings"
	"testing"

	"ferry/api"
	"ferry/ferry"
)

// rubbish is what closes a client, beside what brings it into the phase in which it does.
func rubbish() []string {
	var out []string
	for _, ahead := range []string{"", "FERRYb"} {
		for _, s := range []string{"X", "f", "FX", "FERX", "FERRFERRYa", "\x00", "\xff"} {
			out = append(out, ahead+s)
		}
	}
	for _, s := range []string{"!", "A", "FERRYa", "\x00", "\xe1", "`", "{"} {
		out = append(out, "FERRYa"+s, "FERRYaix"+s)
	}
	for _, s := range []string{"nine more", head(0, 0, 7, 0, 9), head(1, 0, 7, 0, 9), head(9, 9, 7, 9, 65535), head(2, 0, 7, 0, 0) + head(2, 0, 7, 0, 0), head(0, 0, 7, 0, 8) + head(9, 0, 7, 0, 0), "FERRYa..."} {
		out = append(out, "FERRYag"+s, "FERRYag"+head(9, 0, 7, 0, 0)+s+"and more behind it")
	}
	return out
}

// lone is what one client does and hears, in words that can be held against each other.
func lone(x *ferry.Ferry, u int, s string) string {
	var heard strings.Builder
	if x.Send(u, s) != api.OK {
		heard.WriteString("not sent; ")
	}
	x.Tick()
	b, e := x.Take(u, 5)
	status, f := x.Client(u)
	for _, n := range []int{len(b), int(e), int(f), status.Phase, status.Unread, status.Queued, status.Flying, status.Tokens, status.Deficit, status.Out, status.Served} {
		heard.WriteString(twoBytes(n))
	}
	return heard.String() + b
}

func conversation() []string {
	return []string{"FE", "RRYbFERRY", "aiiig", "", head(9, 0, 1, 0, 0)[:5], head(9, 0, 1, 0, 0)[5:] + head(0, 0, 1, 64, 4) + "Q", "", "", head(5, 0, 2, 0, 0)[1:]}
}

func converse(x *ferry.Ferry, u int) []string {
	var heard []string
	for _, s := range conversation() {
		heard = append(heard, lone(x, u, s))
	}
	return heard
}

func wantSame(t *testing.T, what string, got, want []string) {
	t.Helper()
	for i := range want {
		if got[i] != want[i] {
			t.Errorf("P7: %s: step %d: heard %q, alone %q", what, i, got[i], want[i])
		}
	}
}

func alone(t *testing.T) []string {
	x := begun(t, good)
	wantConnect(t, x, 1, 0, api.OK)
	return converse(x, 0)
}

// TestRubbishHarmsNobody: in either seat, before and behind, the other one hears what it hears alone.
func TestRubbishHarmsNobody(t *testing.T) {
	want := alone(t)
	for _, s := range rubbish() {
		for wrong := range 2 {
			x := sat(t, good)
			wantSend(t, x, wrong, s, api.OK)
			wantSame(t, "beside "+s, converse(x, 1-wrong), want)
			wantNobody(t, x, wrong)
			wantConnect(t, x, 1, 2, api.OK)
			wantSame(t, "behind "+s, converse(x, 2), want)
		}
	}
}

// TestHangHarmsNobody: who goes away, in any phase, or takes nothing, harms nobody.
func TestHangHarmsNobody(t *testing.T) {
	want := alone(t)
	for _, s := range []string{"", "FER", "FERRYa", "FERRYaix", "FERRYag", "FERRYagQ", "FERRYag" + head(9, 0, 1, 0, 0) + head(5, 0, 1, 0, 0), strings.Repeat("FERRYb", 100)} {
		for wrong := range 2 {
			x := sat(t, good)
			wantSend(t, x, wrong, s, api.OK)
			wantSame(t, "beside one that takes nothing", converse(x, 1-wrong), want)
			wantHang(t, x, wrong, api.OK)
			wantNobody(t, x, wrong)
			wantConnect(t, x, 1, 2, api.OK)
			wantSame(t, "in the seat of one that went away", converse(x, 2), want)
		}
	}
}

// TestGoneAtTheTick: who is closed is there until the tick, and no longer.
func TestGoneAtTheTick(t *testing.T) {
	c := good
	c.Clients = 1
	for _, s := range rubbish() {
		x := sat(t, c)
		wantSend(t, x, 0, s, api.OK)
		wantStatus(t, x, 0, api.Status{Unread: len(s), Tokens: 4})
		wantConnect(t, x, 1, 0, api.ErrFull)
		x.Tick()
		wantNobody(t, x, 0)
		wantConnect(t, x, 1, 1, api.OK)
		wantStatus(t, x, 1, api.Status{Tokens: 4})
		wantTake(t, x, 1, 99, "", api.OK)
		wantSend(t, x, 1, "FERRYag", api.OK)
		x.Tick()
		wantTake(t, x, 1, 99, "YG", api.OK)
	}
}

func TestHangInEachPhase(t *testing.T) {
	for phase, s := range []string{"FERRYbFER", "FERRYax", "FERRYag" + head(9, 0, 1, 0, 0) + "Q", "FERRYag" + head(5, 0, 1, 0, 0) + "more"} {
		x := sat(t, good)
		wantSend(t, x, 0, s, api.OK)
		x.Tick()
		if status, e := x.Client(0); status.Phase != phase || status.Out == 0 || e != api.OK {
			t.Errorf("P9: Client(0) = %+v, %d, want phase %d", status, e, phase)
		}
		wantHang(t, x, 0, api.OK)
		wantNobody(t, x, 0)
		wantStatus(t, x, 1, api.Status{Tokens: 4})
		x.Tick()
		wantNobody(t, x, 0)
		wantConnect(t, x, 1, 2, api.OK)
		wantStatus(t, x, 2, api.Status{Tokens: 4})
	}
	x := sat(t, good)
	wantSend(t, x, 0, "FERRYag"+head(0, 0, 1, 0, 4), api.OK)
	wantHang(t, x, 0, api.OK)
	wantNobody(t, x, 0)
	x.Tick()
	wantNobody(t, x, 0)
	wantHang(t, x, 1, api.OK)
	wantNobody(t, x, 0, 1)
}

// TestGoneBehindBye: at the end of the tick, or of the Take that empties the outbox.
func TestGoneBehindBye(t *testing.T) {
	bye := head(5, 0, 1, 0, 0)
	x := sat(t, good)
	wantSend(t, x, 0, "FERRYag", api.OK)
	x.Tick()
	wantTake(t, x, 0, 9, "YG", api.OK)
	wantSend(t, x, 0, bye+"more", api.OK)
	wantStatus(t, x, 0, api.Status{Phase: 2, Unread: 13, Tokens: 4})
	x.Tick()
	wantNobody(t, x, 0)

	wantSend(t, x, 1, "FERRYag"+bye+"more", api.OK)
	x.Tick()
	wantStatus(t, x, 1, api.Status{Phase: 3, Unread: 4, Tokens: 4, Out: 2})
	wantSend(t, x, 1, strings.Repeat("x", 1020), api.OK)
	wantSend(t, x, 1, "x", api.ErrLong)
	x.Tick()
	wantTake(t, x, 1, 0, "", api.OK)
	wantTake(t, x, 1, -1, "", api.ErrArg)
	wantTake(t, x, 1, 1, "Y", api.OK)
	wantStatus(t, x, 1, api.Status{Phase: 3, Unread: 1024, Tokens: 4, Out: 1})
	wantTake(t, x, 1, 1, "G", api.OK)
	wantNobody(t, x, 1)
}

// TestByeBehindARequest: who has asked for something is not gone before it is answered.
func TestByeBehindARequest(t *testing.T) {
	x := sat(t, good)
	wantSend(t, x, 0, "FERRYag"+head(2, 0, 1, 0, 0)+head(5, 0, 2, 0, 0), api.OK)
	x.Tick()
	wantTake(t, x, 0, 9, "YG", api.OK)
	status, e := x.Client(0)
	if status.Phase != 3 || status.Queued+status.Flying != 1 || e != api.OK {
		t.Errorf("P7: Client(0) = %+v, %d, want phase 3 and a request", status, e)
	}
	wantConnect(t, x, 1, 0, api.ErrFull)
}

// TestGoneBehindStop: Stop keeps nobody from going.
func TestGoneBehindStop(t *testing.T) {
	x := sat(t, good)
	wantSend(t, x, 0, "FERRYag"+head(5, 0, 1, 0, 0), api.OK)
	wantSend(t, x, 1, "FERRYbrubbish", api.OK)
	x.Tick()
	wantNobody(t, x, 1)
	x.Stop()
	wantTake(t, x, 0, 1, "Y", api.OK)
	x.Tick()
	wantTake(t, x, 0, 9, "G", api.OK)
	wantNobody(t, x, 0)
	y := sat(t, good)
	y.Stop()
	wantHang(t, y, 0, api.OK)
	wantNobody(t, y, 0)
	wantStatus(t, y, 1, api.Status{Tokens: 4})
}
