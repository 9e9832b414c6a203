package sector_test

import (
	"bytes"
	"math/rand"
	"testing"

	"classroom/api"
	"classroom/sector"
)

func fill(c byte) []byte { return bytes.Repeat([]byte{c}, api.SectorSize) }

func make3(t *testing.T) *sector.Disk {
	t.Helper()
	d, e := sector.New(3)
	if e != api.OK || d == nil {
		t.Fatalf("New(3): %d", e)
	}
	return d
}

func expect(t *testing.T, what string, d *sector.Disk, k int, want []byte) {
	t.Helper()
	b, e := d.Read(k)
	if e != api.OK || !bytes.Equal(b, want) {
		t.Errorf("%s: sector %d is %v, %d; want %v", what, k, b, e, want)
	}
}

func TestP1_1_New(t *testing.T) {
	for _, n := range []int{-1, -1 << 63, api.MaxSectors + 1, 1<<63 - 1} {
		if d, e := sector.New(n); d != nil || e != api.ErrRange {
			t.Errorf("New(%d): %v, %d", n, d, e)
		}
	}
	for _, n := range []int{0, 1, api.MaxSectors} {
		d, e := sector.New(n)
		if e != api.OK || d.Sectors() != n || d.Ops() != 0 {
			t.Fatalf("New(%d): %d", n, e)
		}
		for k := range n {
			expect(t, "a new disk", d, k, fill(0))
		}
	}
}

func TestP1_1_NilAndZero(t *testing.T) {
	var none *sector.Disk
	none.Cut(3)
	b, e := none.Read(0)
	if none.Write(0, fill(1)) != api.ErrOff || none.Write(-1, nil) != api.ErrOff || none.Sync() != api.ErrOff || b != nil || e != api.ErrRange ||
		none.Sectors() != 0 || none.Ops() != 0 || none.Crash([]byte{1}) != nil {
		t.Error("a nil Disk")
	}
	zero := &sector.Disk{}
	if _, e := zero.Read(0); e != api.ErrRange || zero.Sectors() != 0 || zero.Write(0, fill(1)) != api.ErrRange || zero.Sync() != api.OK || zero.Ops() != 2 {
		t.Error("a zero Disk")
	}
	if c := zero.Crash(nil); c == nil || c.Sectors() != 0 || c.Ops() != 0 {
		t.Error("Crash of a zero Disk")
	}
	zero.Cut(0)
	if zero.Write(0, fill(1)) != api.ErrOff || zero.Sync() != api.ErrOff || zero.Ops() != 4 {
		t.Error("a zero Disk without power")
	}
}

func TestP1_2_Read(t *testing.T) {
	d := make3(t)
	if d.Write(2, fill(5)) != api.OK {
		t.Fatal("Write")
	}
	expect(t, "buffered", d, 2, fill(5))
	b, _ := d.Read(2)
	b[0] = 77
	expect(t, "Read returns a copy", d, 2, fill(5))
	for _, k := range []int{-1, 3, 1 << 40, -1 << 63} {
		if b, e := d.Read(k); e != api.ErrRange || len(b) != 0 {
			t.Errorf("Read(%d): %v, %d", k, b, e)
		}
	}
	d.Cut(0)
	expect(t, "without power", d, 2, fill(5))
	if _, e := d.Read(3); e != api.ErrRange || d.Sectors() != 3 {
		t.Error("without power")
	}
}

func TestP1_3_Write(t *testing.T) {
	d := make3(t)
	b := fill(1)
	d.Write(0, b)
	b[3] = 9
	expect(t, "Write keeps no reference", d, 0, fill(1))
	expect(t, "not durable before Sync", d.Crash(nil), 0, fill(0))
	for _, x := range []struct {
		k int
		b []byte
	}{{-1, fill(2)}, {3, fill(2)}, {0, nil}, {0, fill(2)[:15]}, {0, append(fill(2), 2)}} {
		if e := d.Write(x.k, x.b); e != api.ErrRange {
			t.Errorf("Write(%d, %d bytes): %d", x.k, len(x.b), e)
		}
	}
	// The invalid writes are not buffered: keep[1] belongs to the next valid one.
	d.Write(1, fill(3))
	c := d.Crash([]byte{16, 16})
	expect(t, "buffered writes", c, 0, fill(1))
	expect(t, "buffered writes", c, 1, fill(3))
	if d.Sync() != api.OK {
		t.Error("Sync")
	}
	expect(t, "durable", d.Crash(nil), 0, fill(1))
	expect(t, "durable", d.Crash(nil), 1, fill(3))
}

func TestP1_3_WithoutPower(t *testing.T) {
	d := make3(t)
	d.Write(0, fill(1))
	d.Cut(0)
	if d.Write(9, nil) != api.ErrOff || d.Write(0, fill(2)) != api.ErrOff || d.Sync() != api.ErrOff {
		t.Error("ErrOff comes before ErrRange")
	}
	expect(t, "after ErrOff", d, 0, fill(1))
	expect(t, "a failed Sync makes nothing durable", d.Crash(nil), 0, fill(0))
	expect(t, "a failed Sync keeps the buffer", d.Crash([]byte{16}), 0, fill(1))
	expect(t, "a failed Write is not buffered", d.Crash([]byte{16, 16}), 0, fill(1))
}

func TestP1_4_Operations(t *testing.T) {
	d := make3(t)
	d.Write(0, fill(1))
	d.Write(7, fill(1))
	d.Sync()
	d.Read(0)
	d.Sectors()
	d.Crash(nil)
	d.Cut(2)
	if d.Ops() != 3 {
		t.Errorf("%d operations", d.Ops())
	}
	if d.Write(7, fill(1)) != api.ErrRange || d.Sync() != api.OK || d.Sync() != api.ErrOff || d.Write(0, fill(1)) != api.ErrOff || d.Ops() != 7 {
		t.Errorf("Cut(2): %d operations", d.Ops())
	}
}

func TestP1_4_Cut(t *testing.T) {
	for _, n := range []int{0, -1, -1 << 63} {
		d := make3(t)
		d.Cut(n)
		d.Cut(100)
		if d.Sync() != api.ErrOff {
			t.Errorf("Cut(%d) is not at once", n)
		}
	}
	d := make3(t)
	d.Cut(1)
	d.Cut(3)
	for range 3 {
		if d.Sync() != api.OK {
			t.Error("a later Cut replaces an earlier one")
		}
	}
	// The power is off after the last operation, not only at the next one.
	d.Cut(3)
	if d.Sync() != api.ErrOff {
		t.Error("it stays off")
	}
	d = make3(t)
	d.Cut(9)
	d.Sync()
	d.Cut(1)
	if d.Sync() != api.OK || d.Sync() != api.ErrOff {
		t.Error("a later, shorter Cut")
	}
}

func TestP1_5_Crash(t *testing.T) {
	d := make3(t)
	d.Write(0, fill(9))
	d.Sync()
	d.Write(0, fill(1))
	d.Write(1, fill(2))
	d.Write(0, fill(3))
	d.Cut(0)
	join := func(parts ...[]byte) []byte { return bytes.Join(parts, nil) }
	for _, x := range []struct {
		keep        []byte
		first, next []byte
	}{
		{nil, fill(9), fill(0)},
		{[]byte{16}, fill(1), fill(0)},
		{[]byte{17}, fill(9), fill(0)},
		{[]byte{34 + 4, 255, 2}, join(fill(3)[:2], fill(1)[:2], fill(9)[:12]), fill(0)},
		{[]byte{2, 15, 4, 9, 9}, join(fill(3)[:4], fill(9)[:12]), join(fill(2)[:15], []byte{0})},
		{[]byte{0, 0, 16}, fill(3), fill(0)},
	} {
		c := d.Crash(x.keep)
		expect(t, "Crash", c, 0, x.first)
		expect(t, "Crash", c, 1, x.next)
		if c.Ops() != 0 || c.Sectors() != 3 {
			t.Error("Ops or Sectors after a crash")
		}
		if c.Write(0, fill(8)) != api.OK {
			t.Error("the power is on after a crash")
		}
		expect(t, "a buffered write after a crash", c.Crash(nil), 0, x.first)
		if c.Sync() != api.OK {
			t.Error("the power is on after a crash")
		}
		expect(t, "a durable write after a crash", c.Crash(nil), 0, fill(8))
	}
	expect(t, "the disk itself does not change", d, 0, fill(3))
	expect(t, "the disk itself does not change", d.Crash(nil), 0, fill(9))
	if d.Ops() != 5 {
		t.Error("Crash is no operation")
	}
	expect(t, "the example", func() *sector.Disk { d := make3(t); d.Write(0, fill(7)); return d.Crash([]byte{5}) }(), 0, join(fill(7)[:5], fill(0)[:11]))
}

func TestP1_6_CrashWithoutBuffer(t *testing.T) {
	r := rand.New(rand.NewSource(1))
	d := make3(t)
	for range 50 {
		d.Write(r.Intn(3), fill(byte(r.Intn(256))))
		if r.Intn(2) == 0 {
			d.Write(r.Intn(3), fill(byte(r.Intn(256))))
		}
		d.Sync()
		keep := make([]byte, r.Intn(5))
		r.Read(keep)
		c := d.Crash(keep)
		for k := range 3 {
			want, _ := d.Read(k)
			expect(t, "without buffered writes", c, k, want)
		}
		d = c
	}
}
