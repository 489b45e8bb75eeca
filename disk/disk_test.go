package disk

import (
	"strings"
	"testing"
)

func TestNewIsNoughts(t *testing.T) {
	for size := 4; size <= 256; size += 4 {
		if got := New(size).Read(0, size); got != strings.Repeat("\x00", size) {
			t.Errorf("a new disk of %d bytes has %q", size, got)
		}
	}
}

// TestWrittenLast: of each byte the disk has what was written last, and no other byte is changed.
func TestWrittenLast(t *testing.T) {
	d := New(12)
	for _, step := range []struct {
		offset int
		s      string
		want   string
	}{
		{0, "", strings.Repeat("\x00", 12)},
		{4, "abcd", "\x00\x00\x00\x00abcd\x00\x00\x00\x00"},
		{8, "efgh", "\x00\x00\x00\x00abcdefgh"},
		{0, "ijklmnop", "ijklmnopefgh"},
		{4, "\x00\x00\x00\x00", "ijkl\x00\x00\x00\x00efgh"},
		{12, "", "ijkl\x00\x00\x00\x00efgh"},
		{0, "ABCDEFGHIJKL", "ABCDEFGHIJKL"},
	} {
		d.Write(step.offset, step.s)
		if got := d.Read(0, 12); got != step.want {
			t.Errorf("behind Write(%d, %q) the disk has %q, want %q", step.offset, step.s, got, step.want)
		}
	}
	for offset := range 13 {
		for length := range 13 - offset {
			if got := d.Read(offset, length); got != "ABCDEFGHIJKL"[offset:offset+length] {
				t.Errorf("Read(%d, %d) = %q", offset, length, got)
			}
		}
	}
}

// TestReadStays: what was read once is not changed by what is written later.
func TestReadStays(t *testing.T) {
	d := New(4)
	d.Write(0, "abcd")
	before := d.Read(0, 4)
	d.Write(0, "efgh")
	if before != "abcd" {
		t.Errorf("what was read became %q", before)
	}
}
