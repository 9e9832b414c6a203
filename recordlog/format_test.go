package recordlog

import (
	"testing"

	"classroom/api"
	"classroom/sector"
)

// set returns a disk with the given bytes of sectors; all other bytes are 0.
func set(t *testing.T, sectors int, at map[int]byte) *sector.Disk {
	t.Helper()
	d, _ := sector.New(sectors)
	for k := range sectors {
		var b [api.SectorSize]byte
		for i := range b {
			b[i] = at[k*api.SectorSize+i]
		}
		if d.Write(k, b[:]) != api.OK {
			t.Fatal("Write")
		}
	}
	return d
}

func TestP2_1_Format(t *testing.T) {
	for i, x := range []struct {
		at   map[int]byte
		want api.Errno
	}{
		{map[int]byte{15: mark}, api.OK},                                // an empty record
		{map[int]byte{15: 1}, api.ErrBad},                               // another mark
		{map[int]byte{2: 1}, api.ErrBad},                                // within the header
		{map[int]byte{2: 1, 15: mark}, api.ErrBad},                      // within the header
		{map[int]byte{14: 1}, api.ErrBad},                               // within the header
		{map[int]byte{14: 1, 15: mark}, api.ErrBad},                     // within the header
		{map[int]byte{7: 1}, api.ErrBad},                                // within the header
		{map[int]byte{1: 3, 15: mark, 16: 1, 18: 1}, api.OK},            // a record
		{map[int]byte{1: 3, 15: mark, 16: 1, 19: 1}, api.ErrBad},        // padding
		{map[int]byte{1: 48, 15: mark}, api.OK},                         // a record up to the end
		{map[int]byte{1: 49, 15: mark}, api.ErrBad},                     // behind the end
		{map[int]byte{0: 255, 15: mark}, api.ErrBad},                    // too long
		{map[int]byte{1: 3, 18: 1}, api.OK},                             // incomplete
		{map[int]byte{1: 3, 19: 1}, api.ErrBad},                         // longer than its length
		{map[int]byte{1: 49}, api.ErrBad},                               // does not fit
		{map[int]byte{63: 1}, api.OK},                                   // the length is not there
		{map[int]byte{0: 1, 63: 1}, api.ErrBad},                         // at least 256 bytes do not fit
		{map[int]byte{15: mark, 31: mark, 63: 1}, api.OK},               // behind two empty records
		{map[int]byte{15: mark, 31: mark, 47: 1}, api.ErrBad},           // a bad mark behind two records
		{map[int]byte{15: mark, 31: mark, 47: mark, 50: 1}, api.ErrBad}, // in the last header
		{map[int]byte{0: 1, 1: 2, 15: mark}, api.ErrBad},                // 258 bytes do not fit
	} {
		l, e := Open(set(t, 4, x.at))
		if e != x.want || (l == nil) != (e != api.OK) {
			t.Errorf("%d: %d, want %d", i, e, x.want)
		}
	}
}

// Each byte of the length of a record may be missing, but what is there must fit.
func TestP2_1_FormatLength(t *testing.T) {
	for i, x := range []struct {
		high, low byte
		last      int // the last byte of the record that is not zero
		want      api.Errno
	}{
		{1, 5, 260, api.OK}, {1, 5, 261, api.ErrBad}, {1, 0, 510, api.OK}, {1, 0, 511, api.ErrBad}, {0, 5, 517 - 1, api.OK}, {0, 5, 517, api.ErrBad}, {0, 0, 700, api.OK}, {2, 200, 0, api.ErrBad}, {2, 100, 611, api.OK}, {3, 0, 0, api.ErrBad},
	} {
		at := map[int]byte{0: x.high, 1: x.low, api.SectorSize + x.last: 1}
		if _, e := Open(set(t, 45, at)); e != x.want {
			t.Errorf("length %d: %d, want %d", i, e, x.want)
		}
	}
	// A record may fill the disk.
	d, _ := sector.New(3)
	l, _ := Open(d)
	if e := l.Append(make([]byte, 32)); e != api.OK {
		t.Errorf("a record that fills the disk: %d", e)
	}
	if e := l.Append(nil); e != api.ErrFull {
		t.Errorf("a disk that is full: %d", e)
	}
}

func TestP2_1_FormatFarAway(t *testing.T) {
	reach := (1 + api.MaxBlob/api.SectorSize) * api.SectorSize
	for at, want := range map[int]api.Errno{reach - 1: api.OK, reach: api.ErrBad} {
		if _, e := Open(set(t, 1000, map[int]byte{at: 1})); e != want {
			t.Errorf("a byte at %d: %d, want %d", at, e, want)
		}
	}
}

// Open leaves nothing that could later be taken for a part of another record.
func TestP2_1_FormatRepair(t *testing.T) {
	d := set(t, 4, map[int]byte{1: 40, 47: mark, 20: 1})
	if _, e := Open(d); e != api.OK {
		t.Fatal(e)
	}
	for k := range 4 {
		if b, _ := d.Crash(nil).Read(k); !zeros(b) {
			t.Errorf("sector %d: %v", k, b)
		}
	}
}
