package ferry_test

import (
	"slices"
	"strings"
	"testing"

	"ferry/api"
	"ferry/ferry"
)

const nought = "\x00\x00\x00\x00"

// lies is a sector that is to lie in the cache.
type lies struct {
	offset int
	s      string
}

// lie is what is written from offset on, sector by sector.
func lie(offset int, s string) []lies {
	var out []lies
	for at := 0; at < len(s); at += 4 {
		out = append(out, lies{offset + at, s[at : at+4]})
	}
	return out
}

// left is what a crash leaves; noughts stand behind the durable bytes that are named.
func left(size int, durable string, cache []lies, keep string) string {
	out := []byte(durable + strings.Repeat("\x00", size-len(durable)))
	for i, c := range cache {
		if i < len(keep) && keep[i] == '1' {
			copy(out[c.offset:], c.s)
		}
	}
	return string(out)
}

func wantCrash(t *testing.T, x *ferry.Ferry, keep, want string) {
	t.Helper()
	for range 2 {
		if s := x.Crash(keep); s != want {
			t.Errorf("P10: Crash(%.80q) = %q, want %q", keep, s, want)
		}
	}
}

// bitsOf is every text of n bits.
func bitsOf(n int) []string {
	out := []string{""}
	for range n {
		var longer []string
		for _, s := range out {
			longer = append(longer, s+"0", s+"1")
		}
		out = longer
	}
	return out
}

// wantCache goes through every choice of what is kept, and behind the end of the cache. If all is kept, the disk is left as it is.
func wantCache(t *testing.T, x *ferry.Ferry, durable string, cache ...lies) {
	t.Helper()
	size := len(x.Disk())
	for n := range len(cache) + 1 {
		for _, keep := range bitsOf(n) {
			wantCrash(t, x, keep, left(size, durable, cache, keep))
		}
	}
	for behind := range 4 {
		wantCrash(t, x, strings.Repeat("0", len(cache)+behind)+"1", left(size, durable, nil, ""))
	}
	wantCrash(t, x, strings.Repeat("1", len(cache)+9), x.Disk())
}

// finish sends what a client asks for, and lets it all be done and taken.
func finish(t *testing.T, x *ferry.Ferry, u int, s string) {
	t.Helper()
	wantSend(t, x, u, s, api.OK)
	for range 40 {
		x.Tick()
		x.Take(u, 999)
		if s := statusOf(x, u); s.Unread+s.Queued+s.Flying == 0 {
			return
		}
	}
	t.Errorf("P12: %q is not done: Client(%d) = %+v", s, u, statusOf(x, u))
}

// through is a write with the flag.
func through(cookie, offset int, data string) string {
	return head(api.Write, 1, cookie, offset, len(data)) + data
}

// TestCrashAtFirst: ahead of any write all is 0, whatever is kept, and whatever else was done.
func TestCrashAtFirst(t *testing.T) {
	for size := 4; size <= 256; size += 4 {
		c := wide(1)
		c.Size, c.Max = size, 4
		x := begun(t, c)
		for _, keep := range []string{"", "0", "1", "11111111", "x", strings.Repeat("1", 1000)} {
			wantCrash(t, x, keep, strings.Repeat("\x00", size))
		}
		x = aboard(t, c, 1)
		wantCache(t, x, "")
		finish(t, x, 0, get(1, 0, 4)+flush(2)+head(9, 0, 3, 0, 4)+put(4, size, "abcd"))
		wantCache(t, x, "")
	}
}

// TestCrashKeeps: texts shorter than the cache, as long and longer, and bytes that are neither 0 nor 1.
func TestCrashKeeps(t *testing.T) {
	x := aboard(t, wide(1), 1)
	finish(t, x, 0, put(1, 0, "aaaabbbb")+put(2, 12, "cccc")+put(3, 4, "dddd"))
	cache := slices.Concat(lie(0, "aaaabbbb"), lie(12, "cccc"), lie(4, "dddd"))
	wantCache(t, x, "", cache...)
	for place := range 6 {
		for b := range 256 {
			keep := strings.Repeat("1", place) + string([]byte{byte(b)})
			wantCrash(t, x, keep, left(64, "", cache, keep))
			wantCrash(t, x, keep+"1", left(64, "", cache, keep+"1"))
		}
	}
	for _, keep := range []string{"１1", "٠1", "\xff\xfe11", "true", "yes", "0x1", "1 1", "-1", "\x01\x01\x01\x01", "0b1111", "11110", "11111"} {
		wantCrash(t, x, keep, left(64, "", cache, keep))
	}
	for _, n := range []int{64, 1000, 1 << 20} {
		for _, b := range []string{"0", "1", "01", "x1", "\x00"} {
			keep := strings.Repeat(b, n)
			wantCrash(t, x, keep, left(64, "", cache, keep[:4]))
		}
	}
}

// TestCrashOfOneSector: the same sector several times in the cache, with every choice of bits: the last that is kept counts.
func TestCrashOfOneSector(t *testing.T) {
	x := aboard(t, wide(1), 1)
	var cache []lies
	for n, s := range []string{"aaaa", "bbbb", "aaaa", nought, "cccc", "aaaa", "dddd"} {
		finish(t, x, 0, put(n, 8, s))
		cache = append(cache, lies{8, s})
		wantCache(t, x, "", cache...)
	}
	finish(t, x, 0, put(8, 4, "eeeeffffgggg"))
	wantCache(t, x, "", append(cache, lie(4, "eeeeffffgggg")...)...)
	finish(t, x, 0, flush(9))
	wantCache(t, x, nought+"eeeeffffgggg")
}

// TestCrashChangesNothing: a ferry that is asked at every step goes on as one that never was.
func TestCrashChangesNothing(t *testing.T) {
	c := wide(2)
	c.Clients = 2
	x, y := aboard(t, c, 1, 2), aboard(t, c, 1, 2)
	asked := func() {
		for _, keep := range []string{"", "1", "0101010101", "xyz", strings.Repeat("1", 5000)} {
			x.Crash(keep)
		}
	}
	for n, s := range []string{
		put(1, 0, "aaaabbbb") + through(2, 4, "cccc"), row(3, 0, 3, 0, 4, 4, 4) + get(5, 0, 8),
		flush(6) + put(7, 8, "dddd"), head(4, 1, 8, 8, 4) + get(9, 0, 16), bye(),
	} {
		for _, z := range []*ferry.Ferry{x, y} {
			wantFate(t, z, 1+n%3, n%2 == 1, n, api.OK)
			wantSend(t, z, n%2, s, api.OK)
		}
		for range 3 {
			asked()
			x.Tick()
			y.Tick()
			asked()
			for u := range 2 {
				s, e := y.Take(u, 999)
				wantTake(t, x, u, 999, s, e)
				if a, b := statusOf(x, u), statusOf(y, u); a != b {
					t.Errorf("P10: Client(%d) = %+v behind crashes, %+v without", u, a, b)
				}
			}
			if a, b := x.Disk(), y.Disk(); a != b || !slices.Equal(x.Log(), y.Log()) {
				t.Errorf("P10: Disk() = %q behind crashes, %q without; Log() = %+v and %+v", a, b, x.Log(), y.Log())
			}
			for _, keep := range bitsOf(6) {
				wantCrash(t, x, keep, y.Crash(keep))
			}
		}
	}
}

// TestCrashInFlight: what is in flight lies in no cache; it joins in the order in which it is done.
func TestCrashInFlight(t *testing.T) {
	x := aboard(t, wide(8), 1)
	for _, delay := range []int{4, 2, 3, 2} {
		wantFate(t, x, delay, false, 0, api.OK)
	}
	wantSend(t, x, 0, put(1, 0, "aaaa")+put(2, 8, "bbbbcccc")+through(3, 24, "dddd")+put(4, 32, "eeee"), api.OK)
	x.Tick()
	wantStatus(t, x, 0, api.Status{Phase: 2, Flying: 4, Tokens: 28, Served: 20})
	wantCache(t, x, "")
	x.Tick()
	wantCache(t, x, "")
	x.Tick()
	cache := append(lie(8, "bbbbcccc"), lies{32, "eeee"})
	wantCache(t, x, "", cache...)
	x.Tick()
	durable := strings.Repeat(nought, 6) + "dddd"
	wantCache(t, x, durable, cache...)
	x.Tick()
	wantCache(t, x, durable, append(cache, lies{0, "aaaa"})...)
}

// TestCrashOfOneGone: the cache asks nobody whether the writer is still there, nor whether bytes are read any more.
func TestCrashOfOneGone(t *testing.T) {
	x := aboard(t, wide(8), 1)
	wantFate(t, x, 3, false, 0, api.OK)
	wantSend(t, x, 0, put(1, 0, "aaaabbbb")+put(2, 4, "cccc"), api.OK)
	x.Tick()
	wantHang(t, x, 0, api.OK)
	wantCache(t, x, "")
	x.Stop()
	ticks(x, 3)
	wantNobody(t, x, 0)
	wantCache(t, x, "", lie(0, "aaaabbbb")...)
}

// TestCacheBySector: writes, trims and zeroes join it sector by sector, in order; reads do not.
func TestCacheBySector(t *testing.T) {
	for _, kind := range []int{api.Trim, api.Zero} {
		x := aboard(t, wide(1), 1)
		finish(t, x, 0, put(1, 0, "aaaabbbbccccdddd")+flush(2))
		wantCache(t, x, "aaaabbbbccccdddd")
		finish(t, x, 0, put(3, 8, "eeeeffff")+head(kind, 0, 4, 4, 8)+get(5, 0, 16)+put(6, 4, "gggg"))
		cache := slices.Concat(lie(8, "eeeeffff"), lie(4, nought+nought), lie(4, "gggg"))
		wantCache(t, x, "aaaabbbbccccdddd", cache...)
		wantDisk(t, x, "aaaagggg"+nought+"ffff")
		finish(t, x, 0, flush(7))
		wantCache(t, x, "aaaagggg"+nought+"ffff")
	}
}

// TestCacheOfAJob: a job of several requests is one row of sectors, of which as many as the fate says join the cache if it fails, with the flag too.
func TestCacheOfAJob(t *testing.T) {
	for _, kind := range []int{api.Write, api.Trim, api.Zero} {
		for flag := range 2 {
			for _, part := range []int{0, 1, 2, 3, 4, 5, 1<<63 - 1} {
				x := aboard(t, wide(1), 1)
				finish(t, x, 0, put(1, 0, "aaaabbbbccccdddd")+flush(2)+put(3, 4, "eeee"))
				wantFate(t, x, 1, true, part, api.OK)
				wantSend(t, x, 0, row(kind, flag, 4, 0, 8, 8, 4, 12, 4), api.OK)
				x.Tick()
				if s := statusOf(x, 0); s.Flying != 3 {
					t.Errorf("Client(0) = %+v, want one job of three", s)
				}
				wantCache(t, x, "aaaabbbbccccdddd", lies{4, "eeee"})
				x.Tick()
				wantTaken(t, x, 0, reply(5, 4, ""), reply(5, 5, ""), reply(5, 6, ""))
				written := strings.Repeat("w", 16)
				if kind != api.Write {
					written = strings.Repeat("\x00", 16)
				}
				cache := append([]lies{{4, "eeee"}}, lie(0, written[:4*min(part, 4)])...)
				wantCache(t, x, "aaaabbbbccccdddd", cache...)
				finish(t, x, 0, flush(7))
				wantCache(t, x, x.Disk())
			}
		}
	}
}

// TestFlushOfACache: one that does not fail makes all durable, whoever wrote it; with an empty cache nothing is changed.
func TestFlushOfACache(t *testing.T) {
	c := wide(1)
	c.Clients = 2
	x := aboard(t, c, 1, 1)
	finish(t, x, 1, flush(1))
	wantCache(t, x, "")
	finish(t, x, 0, put(2, 0, "aaaabbbb")+put(3, 0, "cccc"))
	finish(t, x, 1, put(4, 4, "dddd")+put(5, 0, "eeee")+put(6, 4, "ffff"))
	wantCache(t, x, "", slices.Concat(lie(0, "aaaabbbb"), lie(0, "cccc"), lie(4, "dddd"), lie(0, "eeee"), lie(4, "ffff"))...)
	finish(t, x, 1, flush(7))
	wantCache(t, x, "eeeeffff")
	finish(t, x, 0, flush(8))
	wantCache(t, x, "eeeeffff")
	finish(t, x, 0, put(9, 0, "aaaa"))
	wantCache(t, x, "eeeeffff", lies{0, "aaaa"})
}

// TestFlushThatFails: nothing becomes durable, whatever part its fate has; the next one makes up for it.
func TestFlushThatFails(t *testing.T) {
	for _, part := range []int{0, 1, 2, 99} {
		x := aboard(t, wide(1), 1)
		finish(t, x, 0, put(1, 0, "aaaabbbb")+flush(2)+put(3, 4, "ccccdddd"))
		for n := range 3 {
			wantFate(t, x, 1, true, part, api.OK)
			finish(t, x, 0, flush(4+n))
			wantCache(t, x, "aaaabbbb", lie(4, "ccccdddd")...)
		}
		finish(t, x, 0, put(8, 0, "eeee"))
		wantCache(t, x, "aaaabbbb", append(lie(4, "ccccdddd"), lies{0, "eeee"})...)
		finish(t, x, 0, flush(9))
		wantCache(t, x, "eeeeccccdddd")
	}
}

// TestFlushBesideFlight: what is still in flight when a flush is done does not become durable, though it was dispatched ahead of it.
func TestFlushBesideFlight(t *testing.T) {
	for delay := 1; delay <= 4; delay++ {
		x := aboard(t, wide(8), 1)
		wantFate(t, x, 1, false, 0, api.OK)
		wantFate(t, x, delay, false, 0, api.OK)
		wantFate(t, x, 2, false, 0, api.OK)
		wantSend(t, x, 0, put(1, 0, "aaaa")+put(2, 8, "bbbb")+flush(3), api.OK)
		ticks(x, 3)
		if delay <= 2 { // at the same time the order of dispatch counts
			wantCache(t, x, "aaaa"+nought+"bbbb")
			continue
		}
		wantCache(t, x, "aaaa")
		ticks(x, delay-2)
		wantLogged(t, x, 1, 3, 2)
		wantCache(t, x, "aaaa", lies{8, "bbbb"})
	}
}

// TestFlushAheadOfWrites: what is dispatched behind a flush and done ahead of it becomes durable; what is done behind it at the same time does not.
func TestFlushAheadOfWrites(t *testing.T) {
	x := aboard(t, wide(8), 1)
	for _, delay := range []int{2, 1, 2} {
		wantFate(t, x, delay, false, 0, api.OK)
	}
	wantSend(t, x, 0, flush(1)+put(2, 0, "aaaa")+put(3, 8, "bbbb"), api.OK)
	ticks(x, 3)
	wantLogged(t, x, 2, 1, 3)
	wantCache(t, x, "aaaa", lies{8, "bbbb"})
}

// flagged is a write, trim or zero with the flag, and what it writes.
func flagged(kind, cookie, offset, length int) (string, string) {
	if kind == api.Write {
		return row(kind, 1, cookie, offset, length), strings.Repeat("w", length)
	}
	return row(kind, 1, cookie, offset, length), strings.Repeat("\x00", length)
}

// TestFlag: durable at once; older parts of these sectors go out of the cache, others stay, in their order; later ones join it.
func TestFlag(t *testing.T) {
	for _, kind := range []int{api.Write, api.Trim, api.Zero} {
		x := aboard(t, wide(1), 1)
		finish(t, x, 0, put(1, 0, "aaaabbbbccccdddd")+flush(2))
		finish(t, x, 0, put(3, 8, "eeeeffff")+put(4, 0, "gggghhhh")+put(5, 4, "iiii")+put(6, 12, "jjjj"))
		cache := slices.Concat(lie(8, "eeeeffff"), lie(0, "gggghhhh"), lie(4, "iiii"), lie(12, "jjjj"))
		wantCache(t, x, "aaaabbbbccccdddd", cache...)

		said, written := flagged(kind, 7, 4, 8)
		finish(t, x, 0, said)
		stays := []lies{{12, "ffff"}, {0, "gggg"}, {12, "jjjj"}}
		wantCache(t, x, "aaaa"+written+"dddd", stays...)
		wantDisk(t, x, "gggg"+written+"jjjj")

		finish(t, x, 0, put(8, 8, "kkkk")+put(9, 0, "llll"))
		stays = append(stays, lies{8, "kkkk"}, lies{0, "llll"})
		wantCache(t, x, "aaaa"+written+"dddd", stays...)

		said, again := flagged(kind, 10, 12, 4)
		finish(t, x, 0, said)
		stays = []lies{{0, "gggg"}, {8, "kkkk"}, {0, "llll"}}
		wantCache(t, x, "aaaa"+written+again, stays...)
		finish(t, x, 0, flush(11))
		wantCache(t, x, "llll"+written[:4]+"kkkk"+again)
	}
}

// TestFlagOfAJob: all requests of one job become durable.
func TestFlagOfAJob(t *testing.T) {
	for _, kind := range []int{api.Write, api.Trim, api.Zero} {
		x := aboard(t, wide(1), 1)
		finish(t, x, 0, put(1, 0, "aaaabbbbccccdddd")+flush(2)+put(3, 0, "eeee")+put(4, 12, "ffff"))
		wantSend(t, x, 0, row(kind, 1, 5, 0, 4, 4, 8), api.OK)
		x.Tick()
		wantCache(t, x, "aaaabbbbccccdddd", lies{0, "eeee"}, lies{12, "ffff"})
		x.Tick()
		wantLogged(t, x, 1, 2, 3, 4, 5, 6)
		_, written := flagged(kind, 0, 0, 12)
		wantCache(t, x, written+"dddd", lies{12, "ffff"})
	}
}

// TestFlagAlone: with nothing in the cache, and with nothing else on the disk.
func TestFlagAlone(t *testing.T) {
	x := aboard(t, wide(1), 1)
	finish(t, x, 0, through(1, 4, "aaaabbbb"))
	wantCache(t, x, nought+"aaaabbbb")
	finish(t, x, 0, through(2, 8, "cccc"))
	wantCache(t, x, nought+"aaaacccc")
	finish(t, x, 0, put(3, 4, "dddd"))
	wantCache(t, x, nought+"aaaacccc", lies{4, "dddd"})
	finish(t, x, 0, head(api.Trim, 1, 4, 4, 4))
	wantCache(t, x, nought+nought+"cccc")
}

// TestFlagThatFails: what came onto the disk joins the cache, nothing goes out of it; what follows with the flag takes it all out again.
func TestFlagThatFails(t *testing.T) {
	for _, kind := range []int{api.Write, api.Trim, api.Zero} {
		for part := range 4 {
			x := aboard(t, wide(1), 1)
			finish(t, x, 0, put(1, 0, "aaaabbbb")+flush(2)+put(3, 4, "cccc")+put(4, 0, "dddd"))
			wantFate(t, x, 1, true, part, api.OK)
			said, written := flagged(kind, 5, 0, 8)
			finish(t, x, 0, said)
			cache := append([]lies{{4, "cccc"}, {0, "dddd"}}, lie(0, written[:4*min(part, 2)])...)
			wantCache(t, x, "aaaabbbb", cache...)
			finish(t, x, 0, through(6, 0, "eeee"))
			cache = slices.DeleteFunc(cache, func(c lies) bool { return c.offset == 0 })
			wantCache(t, x, "eeeebbbb", cache...)
		}
	}
}

// TestCrashesApart: P2: several ferries do not touch each other's caches.
func TestCrashesApart(t *testing.T) {
	var ferries []*ferry.Ferry
	for range 4 {
		ferries = append(ferries, aboard(t, wide(1), 1))
	}
	said := []string{put(1, 0, "aaaabbbb"), through(1, 4, "cccc"), put(1, 4, "dddd") + flush(2), get(1, 0, 4)}
	for i, x := range ferries {
		finish(t, x, 0, said[i])
	}
	for range 2 {
		wantCache(t, ferries[0], "", lie(0, "aaaabbbb")...)
		wantCache(t, ferries[1], nought+"cccc")
		wantCache(t, ferries[2], nought+"dddd")
		wantCache(t, ferries[3], "")
	}
	finish(t, ferries[3], 0, put(2, 8, "eeee"))
	finish(t, ferries[0], 0, flush(3))
	wantCache(t, ferries[0], "aaaabbbb")
	wantCache(t, ferries[1], nought+"cccc")
	wantCache(t, ferries[2], nought+"dddd")
	wantCache(t, ferries[3], "", lies{8, "eeee"})
}
