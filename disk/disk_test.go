package disk

import (
	"strings"
	"testing"
)

func TestNewIsNoughts(t *testing.T) {
	for size := 4; size <= 256; size += 4 {
		d := New(size)
		if got := d.Read(0, size); got != strings.Repeat("\x00", size) {
			t.Errorf("a new disk of %d bytes has %q", size, got)
		}
		for _, keep := range []string{"", "0", "1", "1111"} {
			if got := d.Crash(keep); got != strings.Repeat("\x00", size) {
				t.Errorf("of a new disk of %d bytes Crash(%q) leaves %q", size, keep, got)
			}
		}
	}
}

// TestWrittenLast: of each byte the disk has what was written last, and no other byte is changed.
func TestWrittenLast(t *testing.T) {
	d := New(12)
	for _, step := range []struct {
		offset int
		s      string
		want   string
	}{
		{0, "", strings.Repeat("\x00", 12)},
		{4, "abcd", "\x00\x00\x00\x00abcd\x00\x00\x00\x00"},
		{8, "efgh", "\x00\x00\x00\x00abcdefgh"},
		{0, "ijklmnop", "ijklmnopefgh"},
		{4, "\x00\x00\x00\x00", "ijkl\x00\x00\x00\x00efgh"},
		{12, "", "ijkl\x00\x00\x00\x00efgh"},
		{0, "ABCDEFGHIJKL", "ABCDEFGHIJKL"},
	} {
		d.Write(step.offset, step.s)
		if got := d.Read(0, 12); got != step.want {
			t.Errorf("behind Write(%d, %q) the disk has %q, want %q", step.offset, step.s, got, step.want)
		}
	}
	for offset := range 13 {
		for length := range 13 - offset {
			if got := d.Read(offset, length); got != "ABCDEFGHIJKL"[offset:offset+length] {
				t.Errorf("Read(%d, %d) = %q", offset, length, got)
			}
		}
	}
}

// TestReadStays: what was read once is not changed by what is written later.
func TestReadStays(t *testing.T) {
	d := New(4)
	d.Write(0, "abcd")
	before := d.Read(0, 4)
	d.Write(0, "efgh")
	if before != "abcd" {
		t.Errorf("what was read became %q", before)
	}
}

// keeps is every text of n bits.
func keeps(n int) []string {
	var out []string
	for bits := range 1 << n {
		s := ""
		for i := range n {
			s += string("01"[bits>>i&1])
		}
		out = append(out, s)
	}
	return out
}

// lies is a sector that is to lie in the cache.
type lies struct {
	offset int
	s      string
}

// wantCache goes through every choice of what is kept, by texts that are shorter than the cache, as long, and longer.
func wantCache(t *testing.T, d *Disk, durable string, cache ...lies) {
	t.Helper()
	for n := range len(cache) + 2 {
		for _, keep := range keeps(n) {
			want := []byte(durable)
			for i, c := range cache[:min(n, len(cache))] {
				if keep[i] == '1' {
					copy(want[c.offset:], c.s)
				}
			}
			if got := d.Crash(keep); got != string(want) {
				t.Errorf("Crash(%q) = %q, want %q", keep, got, want)
			}
		}
	}
	last := d.Crash(strings.Repeat("1", 99))
	if got := d.Read(0, len(durable)); got != last {
		t.Errorf("the disk has %q, but if all is kept %q is left", got, last)
	}
}

// TestCache: what is written joins it sector by sector, and a flush takes all out.
func TestCache(t *testing.T) {
	d := New(12)
	noughts := strings.Repeat("\x00", 12)
	wantCache(t, d, noughts)
	d.Write(4, "")
	wantCache(t, d, noughts)
	d.Write(4, "aaaabbbb")
	wantCache(t, d, noughts, lies{4, "aaaa"}, lies{8, "bbbb"})
	d.Write(0, "cccc")
	d.Write(4, "dddd")
	d.Write(4, "eeee")
	wantCache(t, d, noughts, lies{4, "aaaa"}, lies{8, "bbbb"}, lies{0, "cccc"}, lies{4, "dddd"}, lies{4, "eeee"})
	d.Flush()
	wantCache(t, d, "cccceeeebbbb")
	d.Flush()
	wantCache(t, d, "cccceeeebbbb")
	d.Write(8, "\x00\x00\x00\x00")
	wantCache(t, d, "cccceeeebbbb", lies{8, "\x00\x00\x00\x00"})
}

// TestWriteThrough: what is older of the same sectors goes out of the cache, all else stays, in its order.
func TestWriteThrough(t *testing.T) {
	for _, way := range []struct {
		offset  int
		s       string
		durable string
		stays   []lies
	}{
		{0, "", "\x00\x00\x00\x00\x00\x00\x00\x00\x00\x00\x00\x00", []lies{{0, "aaaa"}, {4, "bbbb"}, {8, "cccc"}, {4, "dddd"}, {0, "eeee"}}},
		{0, "xxxx", "xxxx\x00\x00\x00\x00\x00\x00\x00\x00", []lies{{4, "bbbb"}, {8, "cccc"}, {4, "dddd"}}},
		{4, "xxxx", "\x00\x00\x00\x00xxxx\x00\x00\x00\x00", []lies{{0, "aaaa"}, {8, "cccc"}, {0, "eeee"}}},
		{8, "xxxx", "\x00\x00\x00\x00\x00\x00\x00\x00xxxx", []lies{{0, "aaaa"}, {4, "bbbb"}, {4, "dddd"}, {0, "eeee"}}},
		{4, "xxxxyyyy", "\x00\x00\x00\x00xxxxyyyy", []lies{{0, "aaaa"}, {0, "eeee"}}},
		{0, "xxxxyyyyzzzz", "xxxxyyyyzzzz", nil},
	} {
		d := New(12)
		d.Write(0, "aaaabbbbcccc")
		d.Write(4, "dddd")
		d.Write(0, "eeee")
		d.WriteThrough(way.offset, way.s)
		wantCache(t, d, way.durable, way.stays...)
		d.Write(4, "ffff")
		wantCache(t, d, way.durable, append(way.stays, lies{4, "ffff"})...)
	}
}
