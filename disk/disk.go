// Package disk is the disk that the clients share. What is written lies in a
// cache at first, of which a crash may lose any part.
package disk

import (
	"slices"

	"ferry/api"
)

// Disk is one whose bytes are all 0 at first, and durable.
type Disk struct {
	bytes   []byte   // what was written last
	durable []byte   // what no crash takes away
	cache   []sector // what lies between both, in the order in which it was written
}

// sector is one that was written, and where.
type sector struct {
	offset int
	bytes  [api.Sector]byte
}

// New makes a disk of that many bytes.
func New(size int) *Disk {
	return &Disk{bytes: make([]byte, size), durable: make([]byte, size)}
}

// Read tells the bytes of a range that must lie on the disk.
func (d *Disk) Read(offset, length int) string {
	return string(d.bytes[offset : offset+length])
}

// Write writes s, which must be whole sectors, from offset on; the disk must
// have room for it there.
func (d *Disk) Write(offset int, s string) {
	copy(d.bytes[offset:], s)
	for at := 0; at < len(s); at += api.Sector {
		c := sector{offset: offset + at}
		copy(c.bytes[:], s[at:])
		d.cache = append(d.cache, c)
	}
}

// WriteThrough is Write past the cache. What is older there of the same sectors
// must go: a crash that kept it would lay it over what is durable.
func (d *Disk) WriteThrough(offset int, s string) {
	copy(d.bytes[offset:], s)
	copy(d.durable[offset:], s)
	end := offset + len(s)
	d.cache = slices.DeleteFunc(d.cache, func(c sector) bool {
		return offset <= c.offset && c.offset < end
	})
}

// Flush makes all durable that was written.
func (d *Disk) Flush() {
	for _, c := range d.cache {
		c.layOn(d.durable)
	}
	d.cache = nil
}

// Crash tells what is left if, of the cache, only those sectors get through for
// which keep has a 1. The disk itself does not crash.
func (d *Disk) Crash(keep string) string {
	left := slices.Clone(d.durable)
	for i, c := range d.cache[:min(len(keep), len(d.cache))] {
		if keep[i] == '1' {
			c.layOn(left)
		}
	}
	return string(left)
}

func (c sector) layOn(bytes []byte) {
	copy(bytes[c.offset:], c.bytes[:])
}
