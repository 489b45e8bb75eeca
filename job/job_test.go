package job

import (
	"slices"
	"strings"
	"testing"

	"ferry/api"
	"ferry/client"
	"ferry/disk"
)

var config = api.Config{Size: 64, Clients: 2, Queue: 8, Max: 32, Quantum: 64, Rate: 16, Burst: 32, Workers: 4, Out: 256}

func ask(kind, flag, cookie, offset, length int) string {
	s := "Q" + string([]byte{byte(kind), byte(flag), byte(cookie), 0, byte(offset), 0, byte(length), 0})
	if kind == api.Write {
		s += strings.Repeat(string([]byte{byte('a' + cookie)}), length)
	}
	return s
}

// asking is a client in whose queue all these wait.
func asking(t *testing.T, requests ...string) *client.Client {
	t.Helper()
	c := client.New(config, 5, 1)
	c.Send("FERRYag" + strings.Join(requests, ""))
	c.Read()
	c.Take(2)
	if s := c.Status(); s.Queued != len(requests) {
		t.Fatalf("%d requests wait, want %d", s.Queued, len(requests))
	}
	return c
}

// whole is a job of all these.
func whole(t *testing.T, requests ...string) (*Job, *client.Client) {
	t.Helper()
	c := asking(t, requests...)
	j := New(c)
	for range len(requests) - 1 {
		j.TakeAlong()
	}
	return j, c
}

func TestBefore(t *testing.T) {
	var jobs []*Job
	for order, delay := range []int{3, 1, 3, 2, 1} {
		j := &Job{}
		j.Start(10, order, Fate{Delay: delay})
		jobs = append(jobs, j)
		for now := 8; now <= 16; now++ {
			if got := j.IsDue(now); got != (now >= 10+delay) {
				t.Errorf("delay %d from 10 on: IsDue(%d) = %t", delay, now, got)
			}
		}
	}
	row := []int{1, 4, 3, 0, 2}
	for i, a := range row {
		for k, b := range row {
			if got := jobs[a].Before(jobs[b]); got != (i < k) {
				t.Errorf("job %d before job %d: %t", a, b, got)
			}
		}
	}
}

func TestFits(t *testing.T) {
	for _, way := range []struct {
		next string
		most int
		want bool
	}{
		{ask(1, 1, 3, 16, 4), 12, true},
		{ask(1, 1, 3, 16, 4), 11, false},
		{ask(1, 1, 3, 16, 8), 16, true},
		{ask(1, 1, 3, 16, 8), 15, false},
		{ask(1, 1, 3, 12, 4), 32, false},
		{ask(1, 1, 3, 20, 4), 32, false},
		{ask(1, 1, 3, 8, 4), 32, false},
		{ask(1, 1, 3, 4, 4), 32, false},
		{ask(1, 0, 3, 16, 4), 32, false},
		{ask(3, 1, 3, 16, 4), 32, false},
		{ask(0, 0, 3, 16, 4), 32, false},
		{ask(2, 0, 3, 0, 0), 32, false},
	} {
		c := asking(t, ask(1, 1, 1, 8, 4), ask(1, 1, 2, 12, 4), way.next)
		j := New(c)
		j.TakeAlong()
		next, _ := c.First()
		if got := j.Fits(next, way.most); got != way.want {
			t.Errorf("Fits(%q, %d) = %t", way.next, way.most, got)
		}
	}
	c := asking(t, ask(2, 0, 1, 0, 0), ask(2, 0, 2, 0, 0))
	j := New(c)
	if next, _ := c.First(); j.Fits(next, 32) {
		t.Error("a flush goes along with a flush")
	}
}

func TestTouchesAnyOfIt(t *testing.T) {
	j, _ := whole(t, ask(1, 0, 1, 8, 4), ask(1, 0, 2, 12, 4))
	for offset := 0; offset < 24; offset += 4 {
		c := asking(t, ask(0, 0, 1, offset, 4))
		r, _ := c.First()
		if got := j.Touches(r); got != (offset == 8 || offset == 12) {
			t.Errorf("a read at %d touches: %t", offset, got)
		}
	}
}

// TestDo: what comes onto the disk, what the client hears, and what the log gets.
func TestDo(t *testing.T) {
	for _, way := range []struct {
		kind    int
		fate    Fate
		written string // from 4 on
		err     int
	}{
		{api.Write, Fate{1, false, 0}, "bbbbbbbbcccc", 0},
		{api.Write, Fate{1, true, 0}, "xxxxxxxxxxxx", 5},
		{api.Write, Fate{1, true, 1}, "bbbbxxxxxxxx", 5},
		{api.Write, Fate{1, true, 2}, "bbbbbbbbxxxx", 5},
		{api.Write, Fate{1, true, 3}, "bbbbbbbbcccc", 5},
		{api.Write, Fate{1, true, 1<<63 - 1}, "bbbbbbbbcccc", 5},
		{api.Trim, Fate{1, false, 1}, strings.Repeat("\x00", 12), 0},
		{api.Zero, Fate{1, true, 2}, "\x00\x00\x00\x00\x00\x00\x00\x00xxxx", 5},
		{api.Read, Fate{1, false, 0}, "xxxxxxxxxxxx", 0},
		{api.Read, Fate{1, true, 2}, "xxxxxxxxxxxx", 5},
	} {
		d := disk.New(20)
		d.Write(0, strings.Repeat("x", 20))
		j, c := whole(t, ask(way.kind, 0, 1, 4, 8), ask(way.kind, 0, 2, 12, 4))
		j.Start(0, 0, way.fate)
		got := j.Do(d)
		want := []api.Entry{
			{Client: 5, Cookie: 1, Kind: way.kind, Offset: 4, Length: 8, Err: way.err},
			{Client: 5, Cookie: 2, Kind: way.kind, Offset: 12, Length: 4, Err: way.err},
		}
		if !slices.Equal(got, want) {
			t.Errorf("%+v: Do = %+v, want %+v", way, got, want)
		}
		if s := d.Read(0, 20); s != "xxxx"+way.written+"xxxx" {
			t.Errorf("%+v: the disk has %q", way, s)
		}
		first, second := "", ""
		if way.kind == api.Read && way.err == 0 {
			first, second = "xxxxxxxx", "xxxx"
		}
		e := string([]byte{byte(way.err)})
		if s, _ := c.Take(99); s != "R"+e+"\x01\x00"+first+"R"+e+"\x02\x00"+second {
			t.Errorf("%+v: heard is %q", way, s)
		}
	}
}

// TestDoForNobody: the disk is written, and the log told, whoever is closed.
func TestDoForNobody(t *testing.T) {
	d := disk.New(8)
	j, c := whole(t, ask(1, 1, 1, 4, 4))
	c.Close()
	j.Start(0, 0, Fate{Delay: 1})
	if got := j.Do(d); !slices.Equal(got, []api.Entry{{Client: 5, Cookie: 1, Kind: 1, Flag: 1, Offset: 4, Length: 4}}) {
		t.Errorf("Do = %+v", got)
	}
	if s := d.Read(0, 8); s != "\x00\x00\x00\x00bbbb" || !c.IsGone() {
		t.Errorf("the disk has %q, gone %t", s, c.IsGone())
	}
}

// TestDoToTheCache: of a job that does not fail the flag makes all durable, and a flush does; all else joins the cache.
func TestDoToTheCache(t *testing.T) {
	for _, way := range []struct {
		kind, flag int
		fate       Fate
		durable    string // from 4 on
		oneByOne   string // what is left from 4 on if the first, the second .. of the cache alone is kept
	}{
		{api.Write, 0, Fate{1, false, 0}, "xxxxxxxxxxxx", "bbbbxxxxxxxx|xxxxbbbbxxxx|xxxxxxxxcccc"},
		{api.Write, 0, Fate{1, true, 0}, "xxxxxxxxxxxx", "xxxxxxxxxxxx"},
		{api.Write, 0, Fate{1, true, 2}, "xxxxxxxxxxxx", "bbbbxxxxxxxx|xxxxbbbbxxxx|xxxxxxxxxxxx"},
		{api.Write, 1, Fate{1, false, 0}, "bbbbbbbbcccc", "bbbbbbbbcccc"},
		{api.Write, 1, Fate{1, true, 0}, "xxxxxxxxxxxx", "xxxxxxxxxxxx"},
		{api.Write, 1, Fate{1, true, 1}, "xxxxxxxxxxxx", "bbbbxxxxxxxx|xxxxxxxxxxxx"},
		{api.Write, 1, Fate{1, true, 3}, "xxxxxxxxxxxx", "bbbbxxxxxxxx|xxxxbbbbxxxx|xxxxxxxxcccc"},
		{api.Trim, 1, Fate{1, false, 0}, strings.Repeat("\x00", 12), strings.Repeat("\x00", 12)},
		{api.Zero, 1, Fate{1, true, 1}, "xxxxxxxxxxxx", "\x00\x00\x00\x00xxxxxxxx|xxxxxxxxxxxx"},
		{api.Zero, 0, Fate{1, false, 1}, "xxxxxxxxxxxx", "\x00\x00\x00\x00xxxxxxxx|xxxx\x00\x00\x00\x00xxxx|xxxxxxxx\x00\x00\x00\x00"},
		{api.Read, 0, Fate{1, false, 0}, "xxxxxxxxxxxx", "xxxxxxxxxxxx"},
		{api.Read, 0, Fate{1, true, 3}, "xxxxxxxxxxxx", "xxxxxxxxxxxx"},
	} {
		d := disk.New(20)
		d.WriteThrough(0, strings.Repeat("x", 20))
		j, _ := whole(t, ask(way.kind, way.flag, 1, 4, 8), ask(way.kind, way.flag, 2, 12, 4))
		j.Start(0, 0, way.fate)
		j.Do(d)
		if s := d.Crash(""); s != "xxxx"+way.durable+"xxxx" {
			t.Errorf("%+v: durable is %q", way, s)
		}
		for i, want := range strings.Split(way.oneByOne, "|") {
			if s := d.Crash(strings.Repeat("0", i) + "1"); s != "xxxx"+want+"xxxx" {
				t.Errorf("%+v: with the %dth of the cache %q is left", way, i, s)
			}
		}
	}
}

// TestDoFlush: one that fails leaves the cache as it is.
func TestDoFlush(t *testing.T) {
	for _, fate := range []Fate{{1, true, 0}, {1, true, 1}, {1, true, 99}, {1, false, 0}} {
		d := disk.New(8)
		d.Write(0, "aaaabbbb")
		j, _ := whole(t, ask(api.Flush, 0, 1, 0, 0))
		j.Start(0, 0, fate)
		j.Do(d)
		want := []string{"aaaabbbb", "aaaabbbb", "aaaabbbb"}
		if fate.Fails {
			want = []string{"\x00\x00\x00\x00\x00\x00\x00\x00", "\x00\x00\x00\x00bbbb", "aaaabbbb"}
		}
		for i, keep := range []string{"", "01", "11"} {
			if s := d.Crash(keep); s != want[i] {
				t.Errorf("%+v: Crash(%q) = %q, want %q", fate, keep, s, want[i])
			}
		}
	}
}
