package recordlog_test

import (
	"bytes"
	"math/rand"
	"testing"

	"classroom/api"
	"classroom/recordlog"
	"classroom/sector"
)

func disk(t *testing.T, sectors int) *sector.Disk {
	t.Helper()
	d, e := sector.New(sectors)
	if e != api.OK {
		t.Fatalf("New(%d): %d", sectors, e)
	}
	return d
}

func open(t *testing.T, d *sector.Disk) *recordlog.Log {
	t.Helper()
	l, e := recordlog.Open(d)
	if e != api.OK || l == nil || l.Dead() {
		t.Fatalf("Open: %d", e)
	}
	return l
}

func blob(n int, c byte) []byte { return bytes.Repeat([]byte{c}, n) }

// expect checks all records of a log.
func expect(t *testing.T, what string, l *recordlog.Log, want ...[]byte) {
	t.Helper()
	if l.Len() != len(want) {
		t.Fatalf("%s: %d records, want %d", what, l.Len(), len(want))
	}
	for k, w := range want {
		if b, e := l.Record(k); e != api.OK || !bytes.Equal(b, w) {
			t.Fatalf("%s: record %d: %v, %d", what, k, b, e)
		}
	}
}

func TestP2_1_Open(t *testing.T) {
	if l, e := recordlog.Open(nil); l != nil || e != api.ErrEmpty {
		t.Errorf("Open(nil): %v, %d", l, e)
	}
	for _, n := range []int{0, 1, 2, api.MaxSectors} {
		expect(t, "a disk with zeros", open(t, disk(t, n)))
	}
	if l, e := recordlog.Open(&sector.Disk{}); e != api.OK || l.Len() != 0 {
		t.Errorf("a zero disk: %d", e)
	}
	off := disk(t, 10)
	open(t, off).Append(blob(3, 3))
	off.Cut(0)
	if l, e := recordlog.Open(off); e != api.ErrOff || l != nil {
		t.Errorf("without power: %v, %d", l, e)
	}
}

func TestP2_1_Bad(t *testing.T) {
	bad := func(d *sector.Disk) {
		t.Helper()
		if l, e := recordlog.Open(d); l != nil || e != api.ErrBad {
			t.Errorf("foreign contents: %v, %d", l, e)
		}
		d.Cut(0)
		if l, e := recordlog.Open(d); l != nil || e != api.ErrBad {
			t.Errorf("ErrBad comes before ErrOff: %v, %d", l, e)
		}
	}
	for _, c := range []byte{1, 0x55, 0xAA, 0xFF} {
		d := disk(t, 40)
		for k := range 40 {
			d.Write(k, blob(api.SectorSize, c))
		}
		d.Sync()
		bad(d)
	}
	d := disk(t, 1)
	d.Write(0, blob(api.SectorSize, 200))
	bad(d)
}

func TestP2_1_Durable(t *testing.T) {
	// What Open finds is durable afterwards, also if it was only buffered before.
	for cut := range 12 {
		d := disk(t, 20)
		l := open(t, d)
		d.Cut(cut)
		l.Append(blob(30, 4))
		for _, keep := range [][]byte{nil, blob(9, 16), blob(9, 7)} {
			c := d.Crash(keep)
			n := open(t, c).Len()
			if m := open(t, c.Crash(nil)).Len(); m != n {
				t.Errorf("cut %d: %d records, then %d", cut, n, m)
			}
		}
	}
}

func TestP2_2_Append(t *testing.T) {
	d := disk(t, api.MaxSectors)
	l := open(t, d)
	b := blob(20, 1)
	want := [][]byte{blob(20, 1), nil, blob(15, 2), blob(16, 3), blob(17, 4), blob(api.MaxBlob, 5), make([]byte, 100)}
	if l.Append(b) != api.OK {
		t.Fatal("Append")
	}
	b[0] = 99
	for _, w := range want[1:] {
		if e := l.Append(w); e != api.OK {
			t.Fatalf("Append of %d bytes: %d", len(w), e)
		}
	}
	expect(t, "after Append", l, want...)
	expect(t, "after Open", open(t, d), want...)
	expect(t, "after a crash", open(t, d.Crash(nil)), want...)
	expect(t, "after a crash", open(t, d.Crash(blob(99, 16))), want...)
	ops := d.Ops()
	if l.Append(blob(api.MaxBlob+1, 1)) != api.ErrLong || d.Ops() != ops {
		t.Error("ErrLong")
	}
	expect(t, "after ErrLong", l, want...)
	if l.Append(blob(3, 8)) != api.OK {
		t.Error("the log is alive after ErrLong")
	}
}

func TestP2_2_Full(t *testing.T) {
	d := disk(t, 8)
	l := open(t, d)
	var want [][]byte
	for l.Append([]byte{1, 2}) == api.OK {
		want = append(want, []byte{1, 2})
		if len(want) > 8 {
			t.Fatal("more records than sectors")
		}
	}
	if e := l.Append(blob(3, 3)); e != api.ErrFull || l.Dead() {
		t.Errorf("a full disk: %d", e)
	}
	if e := l.Append(blob(api.MaxBlob+1, 3)); e != api.ErrLong {
		t.Errorf("ErrLong comes before ErrFull: %d", e)
	}
	expect(t, "after ErrFull", l, want...)
	expect(t, "after ErrFull", open(t, d.Crash(nil)), want...)
	d.Cut(0)
	if e := l.Append(blob(200, 3)); e != api.ErrFull || l.Dead() {
		t.Errorf("ErrFull comes before ErrOff: %d", e)
	}
	if e := open(t, disk(t, 0)).Append(nil); e != api.ErrFull {
		t.Errorf("a disk without sectors: %d", e)
	}
	d = disk(t, 8)
	l = open(t, d)
	if l.Append(blob(400, 1)) != api.ErrFull || l.Append(blob(5, 1)) != api.OK {
		t.Error("a smaller record still fits after ErrFull")
	}
}

func TestP2_2_Dead(t *testing.T) {
	d := disk(t, 30)
	l := open(t, d)
	l.Append(blob(9, 1))
	d.Cut(1)
	if e := l.Append(blob(40, 2)); e != api.ErrOff || !l.Dead() {
		t.Errorf("without power: %d", e)
	}
	if l.Append(blob(1, 3)) != api.ErrDead || l.Append(blob(9999, 3)) != api.ErrLong {
		t.Error("a dead log")
	}
	if e := l.Append(blob(api.MaxBlob, 3)); e != api.ErrDead {
		t.Errorf("ErrDead comes before ErrFull: %d", e)
	}
	expect(t, "a dead log", l, blob(9, 1))
}

func TestP2_3_Space(t *testing.T) {
	r := rand.New(rand.NewSource(2))
	for round := range 200 {
		n := r.Intn(60)
		d := disk(t, n)
		l := open(t, d)
		var want [][]byte
		sum := 0
		for {
			size := r.Intn(70)
			if round%3 == 0 {
				size = []int{0, 15, 16, 31, 32, 47}[r.Intn(6)]
			}
			sum += size/api.SectorSize + 3
			if sum > n {
				break
			}
			b := make([]byte, size)
			r.Read(b)
			if e := l.Append(b); e != api.OK {
				t.Fatalf("%d of %d sectors: %d", sum, n, e)
			}
			want = append(want, b)
		}
		expect(t, "all records", open(t, d.Crash(nil)), want...)
	}
	d := disk(t, api.MaxBlob/api.SectorSize+3)
	if e := open(t, d).Append(blob(api.MaxBlob, 1)); e != api.OK {
		t.Errorf("the largest record: %d", e)
	}
}

func TestP2_4_Record(t *testing.T) {
	l := open(t, disk(t, 30))
	l.Append([]byte{1, 2, 3})
	b, _ := l.Record(0)
	b[0] = 9
	expect(t, "Record returns a copy", l, []byte{1, 2, 3})
	for _, k := range []int{-1, 1, 1 << 50} {
		if b, e := l.Record(k); len(b) != 0 || e != api.ErrNone {
			t.Errorf("Record(%d): %v, %d", k, b, e)
		}
	}
}

func TestP2_5_NilAndZero(t *testing.T) {
	for _, l := range []*recordlog.Log{nil, {}} {
		_, e := l.Record(0)
		if l.Append(nil) != api.ErrDead || l.Append(blob(api.MaxBlob+1, 1)) != api.ErrLong || l.Len() != 0 || e != api.ErrNone || !l.Dead() {
			t.Error("a nil or zero log")
		}
	}
}

// prefix checks that a log has the records that were acknowledged, possibly followed by the one that failed.
func prefix(t *testing.T, l *recordlog.Log, acked [][]byte, failed []byte) [][]byte {
	t.Helper()
	if l.Len() == len(acked)+1 && failed != nil {
		acked = append(acked[:len(acked):len(acked)], failed)
	}
	expect(t, "after a crash", l, acked...)
	return acked
}

func TestP2_6_EveryCut(t *testing.T) {
	first, last := []byte("the first one"), []byte("a longer record of more than two sectors, which is torn")
	r := rand.New(rand.NewSource(3))
	both, one := false, false
	for cut := range 14 {
		for range 40 {
			d := disk(t, 30)
			l := open(t, d)
			l.Append(first)
			d.Cut(cut)
			acked, failed := [][]byte{first}, last
			if l.Append(last) == api.OK {
				acked, failed = [][]byte{first, last}, nil
			}
			keep := make([]byte, 12)
			for i := range keep {
				keep[i] = []byte{0, 16, 1, 2, 3, 15, byte(r.Intn(17))}[r.Intn(7)]
			}
			d = d.Crash(keep)
			found := prefix(t, open(t, d), acked, failed)
			if failed != nil {
				both, one = both || len(found) == 2, one || len(found) == 1
			}
			l = open(t, d.Crash(nil))
			if l.Append(nil) != api.OK {
				t.Fatal("Append after a crash")
			}
			prefix(t, open(t, d.Crash(nil)), found, nil)
		}
	}
	if !one {
		t.Error("no cut was within Append")
	}
}

// The power is cut within the Append of records of many sizes, after which anything may be on the disk.
func TestP2_6_LargeRecords(t *testing.T) {
	r := rand.New(rand.NewSource(5))
	for _, size := range []int{0, 1, 16, 255, 256, 257, 511, 512, 600, 4096, 5000, api.MaxBlob - 1, api.MaxBlob} {
		for range 30 {
			d := disk(t, size/api.SectorSize+6)
			l := open(t, d)
			l.Append(nil)
			d.Cut(r.Intn(size/api.SectorSize + 6))
			b := make([]byte, size)
			for i := range b {
				b[i] = byte(r.Intn(256)) | 1
			}
			acked, failed := [][]byte{nil}, b
			if l.Append(b) == api.OK {
				acked, failed = [][]byte{nil, b}, nil
			}
			keep := make([]byte, d.Ops())
			for i := range keep {
				keep[i] = []byte{0, 16, 1, byte(r.Intn(17))}[r.Intn(4)]
			}
			d = d.Crash(keep)
			// A part of the repair may be lost, too.
			for range r.Intn(3) {
				d.Cut(r.Intn(size/api.SectorSize + 3))
				recordlog.Open(d)
				d = crash(r, d)
			}
			acked = prefix(t, open(t, d), acked, failed)
			l = open(t, d)
			if e := l.Append([]byte{7}); e != api.OK && len(acked) < 2 {
				t.Fatalf("%d bytes: Append after a crash: %d", size, e)
			}
		}
	}
}

func TestP2_6_ManyCrashes(t *testing.T) {
	r := rand.New(rand.NewSource(4))
	for range 400 {
		d := disk(t, 120)
		var acked [][]byte
		for range 8 {
			var failed []byte
			l := open(t, d)
			acked = prefix(t, l, acked, nil)
			d.Cut(r.Intn(40))
			for range 3 {
				b := make([]byte, r.Intn(60))
				r.Read(b)
				if e := l.Append(b); e == api.OK {
					acked = append(acked, b)
				} else if e == api.ErrOff {
					failed = append([]byte{}, b...)
					break
				}
			}
			d = crash(r, d)
			// The power may be cut within Open as often as it likes.
			for r.Intn(3) != 0 {
				d.Cut(r.Intn(5))
				if l, e := recordlog.Open(d); e == api.OK {
					acked, failed = prefix(t, l, acked, failed), nil
				} else if e != api.ErrOff {
					t.Fatalf("Open: %d", e)
				}
				d = crash(r, d)
			}
			acked = prefix(t, open(t, d), acked, failed)
		}
	}
}

func crash(r *rand.Rand, d *sector.Disk) *sector.Disk {
	keep := make([]byte, r.Intn(12))
	for i := range keep {
		keep[i] = byte(r.Intn(17))
	}
	return d.Crash(keep)
}
