// Package sector is layer 1: a simulated disk whose writes are buffered, so that a crash can lose or tear them.
package sector

import (
	"slices"

	"classroom/api"
)

// block holds the bytes of a sector.
type block [api.SectorSize]byte

// write is a buffered write.
type write struct {
	sector  int
	content block
}

// Disk is a simulated disk. The zero Disk has no sectors.
type Disk struct {
	durable  []block
	present  []block // durable, after all buffered writes
	buffered []write
	ops      int
	limited  bool // whether Cut has been called
	left     int  // operations until the power is off, if limited
}

// New returns a disk with this number of sectors, all bytes of which are 0.
func New(sectors int) (*Disk, api.Errno) {
	if sectors < 0 || sectors > api.MaxSectors {
		return nil, api.ErrRange
	}
	return &Disk{durable: make([]block, sectors), present: make([]block, sectors)}, api.OK
}

// Sectors returns the number of sectors.
func (d *Disk) Sectors() int {
	if d == nil {
		return 0
	}
	return len(d.present)
}

// Read returns a copy of the bytes of sector k.
func (d *Disk) Read(k int) ([]byte, api.Errno) {
	if k < 0 || k >= d.Sectors() {
		return nil, api.ErrRange
	}
	b := d.present[k]
	return slices.Clone(b[:]), api.OK
}

// operate counts an operation and reports whether there is power for it.
func (d *Disk) operate() bool {
	d.ops++
	if !d.limited {
		return true
	}
	if d.left == 0 {
		return false
	}
	d.left--
	return true
}

// Write changes the contents of sector k to b.
func (d *Disk) Write(k int, b []byte) api.Errno {
	if d == nil || !d.operate() {
		return api.ErrOff
	}
	if k < 0 || k >= len(d.present) || len(b) != api.SectorSize {
		return api.ErrRange
	}
	w := write{sector: k, content: block(b)}
	d.present[k] = w.content
	d.buffered = append(d.buffered, w)
	return api.OK
}

// Sync makes all buffered writes durable.
func (d *Disk) Sync() api.Errno {
	if d == nil || !d.operate() {
		return api.ErrOff
	}
	for _, w := range d.buffered {
		d.durable[w.sector] = w.content
	}
	d.buffered = nil
	return api.OK
}

// Ops returns the number of operations so far.
func (d *Disk) Ops() int {
	if d == nil {
		return 0
	}
	return d.ops
}

// Cut lets n further operations take place before the power is off.
func (d *Disk) Cut(n int) {
	if d == nil || d.limited && d.left == 0 {
		return
	}
	d.limited, d.left = true, max(n, 0)
}

// Crash returns the disk after a crash that keeps only a part of each buffered write.
func (d *Disk) Crash(keep []byte) *Disk {
	if d == nil {
		return nil
	}
	after := slices.Clone(d.durable)
	for i, w := range d.buffered {
		if i >= len(keep) {
			break
		}
		n := int(keep[i]) % (api.SectorSize + 1)
		copy(after[w.sector][:n], w.content[:n])
	}
	return &Disk{durable: after, present: slices.Clone(after)}
}
