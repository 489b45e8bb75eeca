// Package disk is the disk that the clients share.
package disk

// Disk is one whose bytes are all 0 at first.
type Disk struct {
	bytes []byte
}

// New makes a disk of that many bytes.
func New(size int) *Disk {
	return &Disk{bytes: make([]byte, size)}
}

// Read tells the bytes of a range that must lie on the disk.
func (d *Disk) Read(offset, length int) string {
	return string(d.bytes[offset : offset+length])
}

// Write writes s from offset on; the disk must have room for it there.
func (d *Disk) Write(offset int, s string) {
	copy(d.bytes[offset:], s)
}
