package ferry_test

import (
	"runtime"
	"slices"
	"strings"
	"testing"
	"time"

	"ferry/api"
	"ferry/ferry"
)

// wantNoMore waits a little: a goroutine that has been joined may still be on its way out.
func wantNoMore(t *testing.T, before int) {
	t.Helper()
	after := 0
	for range 1000 {
		if after = runtime.NumGoroutine(); after <= before {
			return
		}
		runtime.Gosched()
		time.Sleep(time.Millisecond)
	}
	t.Errorf("P1: %d goroutines, where %d were before", after, before)
}

// TestNoGoroutineStays: P1.
func TestNoGoroutineStays(t *testing.T) {
	before := runtime.NumGoroutine()
	for phase := range 3 {
		ferry.Decode(good, phase, "FERRYag"+head(2, 0, 7, 0, 0))
		ferry.Decode(good, phase, "rubbish, and more of it")
	}
	c := good
	c.Clients = 8
	for _, s := range append(rubbish(), "", "FE", "FERRYag"+head(2, 0, 7, 0, 0), "FERRYag"+head(5, 0, 7, 0, 0), strings.Repeat("FERRYb", 100)) {
		x := sat(t, c)
		for u := range 8 {
			x.Send(u, s)
		}
		x.Tick()
		x.Hang(3)
		x.Tick()
		x.Stop()
		x.Tick()
	}
	for seed := range uint64(10) {
		play(t, someBytes(900+seed, 600))
	}
	wantNoMore(t, before)
}

// TestWrongNumbers: P1: no number and no text makes a call panic, or changes anything where it is refused.
func TestWrongNumbers(t *testing.T) {
	x := sat(t, good)
	x.Send(0, "FERRYai")
	x.Tick()
	x.Send(0, "x")
	long := strings.Repeat("FERRYa", 1<<16)
	for _, n := range append([]int{-1, 2, 3, 255, 256}, far...) {
		wantNobody(t, x, n)
		if n < 0 {
			wantTake(t, x, 0, n, "", api.ErrArg)
		}
		wantSend(t, x, n, long, api.ErrClient)
		wantSend(t, x, 0, long, api.ErrLong)
		x.Connect(n)
		x.Crash(long)
		x.Fate(n, true, n)
		wantStatus(t, x, 0, api.Status{Phase: 1, Unread: 1, Tokens: 4, Out: 6})
		wantStatus(t, x, 1, api.Status{Tokens: 4})
	}
	x.Log()
	x.Done()
	wantTake(t, x, 0, 99, "YI\x40\x00\x08\x00", api.OK)
	wantConnect(t, x, 1, 0, api.ErrFull)
}

// TestListsAreNew: P2: lists that are out already stay as they are, whatever is asked or written into others later.
func TestListsAreNew(t *testing.T) {
	s := strings.Repeat("i", 5) + "g" + write(0, 1, 0, "abcd", 0).bytes + head(2, 0, 1, 0, 0)
	first, _ := ferry.Decode(good, 1, s)
	want := slices.Clone(first)
	for range 100 {
		l, _ := ferry.Decode(good, 1, s)
		if !slices.Equal(l, want) {
			t.Fatalf("P2: Decode = %+v, before %+v", l, want)
		}
		l = append(l[:1], make([]api.Message, cap(l)-1)...)
		clear(l[:cap(l)])
		ferry.Decode(good, 0, "FERRYbFERRYb")
		if !slices.Equal(first, want) {
			t.Fatalf("P2: a list that was out became %+v, before %+v", first, want)
		}
	}
}

// TestCallsDoNotShareCookies: P2: what one call has accepted is not in use in the next.
func TestCallsDoNotShareCookies(t *testing.T) {
	for range 3 {
		wantSaid(t, 2, "", ask(2, 0, 7, 0, 0, 0), ask(2, 0, 8, 0, 0, 0))
	}
}

// FuzzDecode: P1, P2 and P4 of any bytes; without -fuzz it goes through the seeds, each cut at every byte.
func FuzzDecode(f *testing.F) {
	for phase := range 3 {
		f.Add(phase, "FERRYag"+write(0, 7, 0, "abcd", 0).bytes+head(0, 0, 8, 0, 8)+head(5, 0, 9, 0, 0)+"FERRYa")
		f.Add(phase, "gg"+head(2, 0, 7, 0, 0)+head(2, 0, 7, 0, 0)+"abc")
		f.Add(phase, write(0, 7, 0, "abcd", 0).bytes+head(9, 9, 9, 9, 8)+"\xff\x00Q")
	}
	f.Fuzz(func(t *testing.T, phase int, s string) {
		all, total := ferry.Decode(good, phase, s)
		if total < 0 || total > len(s) {
			t.Fatalf("P4: %d bytes of %d", total, len(s))
		}
		whole, _ := ferry.Decode(good, phase, s[:total])
		if !slices.Equal(whole, all) {
			t.Fatalf("P4: %+v of the bytes that were told, %+v before", whole, all)
		}
		for cut := range min(total, 300) {
			part, n := ferry.Decode(good, phase, s[:cut])
			if n > cut || len(part) > len(all) || !slices.Equal(part, all[:len(part)]) {
				t.Fatalf("P4: cut at %d: %+v, %d, want the first of %+v", cut, part, n, all)
			}
		}
		for i, m := range all {
			if m.What < api.Greeting || m.What > api.Closing || m.What == api.Closing && (i != len(all)-1 || m != api.Message{What: api.Closing}) {
				t.Fatalf("P4: message %d of %+v", i, all)
			}
		}
	})
}
