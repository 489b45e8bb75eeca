package wire

import (
	"testing"

	"ferry/api"
)

var config = api.Config{Size: 64, Clients: 2, Queue: 2, Max: 8, Quantum: 8, Rate: 2, Burst: 4, Workers: 1, Out: 32}

func flush(cookie byte) string { return "Q\x02\x00" + string([]byte{cookie}) + "\x00\x00\x00\x00\x00" }

// TestLeaveAndGoOn: whoever leaves behind each message hears the same as one who stays.
func TestLeaveAndGoOn(t *testing.T) {
	s := "FERRYbFERRYaxg" + flush(1) + flush(2) + flush(1) + flush(3)
	r := NewReader(config, PhaseGreeting)
	var got []api.Message
	for rest := s; ; {
		before := len(got)
		for m, n := range r.Messages(rest) {
			got = append(got, m)
			rest = rest[n:]
			break
		}
		if len(got) == before {
			break
		}
	}
	i := 0
	for m := range NewReader(config, PhaseGreeting).Messages(s) {
		if i >= len(got) || got[i] != m {
			t.Fatalf("left and gone on: %+v, but message %d is %+v", got, i, m)
		}
		i++
	}
	if i != len(got) || i != 7 || got[6].What != api.Closing {
		t.Errorf("left and gone on: %+v, but %d messages without leaving", got, i)
	}
}

// TestNothingWithoutABody: a reader whose messages nobody goes through has read nothing.
func TestNothingWithoutABody(t *testing.T) {
	r := NewReader(config, PhaseGreeting)
	r.Messages("X")
	if r.phase != PhaseGreeting {
		t.Errorf("phase %d, though nothing was read", r.phase)
	}
}

// TestOtherPanicsGoOn: the door holds back no mistake of the program.
func TestOtherPanicsGoOn(t *testing.T) {
	defer func() {
		if recover() != "a mistake" {
			t.Error("another panic was taken for a breach")
		}
	}()
	closing("a mistake")
}

// TestNothingBehindTheEnd: of one that is leaving or closed nothing is read.
func TestNothingBehindTheEnd(t *testing.T) {
	for _, phase := range []int{PhaseLeaving, PhaseClosed} {
		for m := range NewReader(config, phase).Messages("FERRYag" + flush(1)) {
			t.Errorf("phase %d: %+v", phase, m)
		}
	}
}

// TestFree: a cookie closes as long as it is in use, and no longer.
func TestFree(t *testing.T) {
	said := func(r *Reader, cookie byte) int {
		for m := range r.Messages(flush(cookie)) {
			return m.What
		}
		return 0
	}
	r := NewReader(config, PhaseRequests)
	said(r, 1)
	said(r, 2)
	r.Free(1)
	r.Free(9)
	if what := said(r, 1); what != api.Request {
		t.Errorf("a cookie that is free again: %d, want a request", what)
	}
	if what := said(r, 2); what != api.Closing {
		t.Errorf("a cookie that is in use beside it: %d, want a closing", what)
	}
}
