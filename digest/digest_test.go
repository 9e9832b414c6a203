package digest_test

import (
	"math/rand"
	"testing"

	"classroom/digest"
)

// slow follows the document in 64-bit arithmetic.
func slow(b []byte) uint64 {
	h := uint64(2166136261)
	for _, c := range b {
		h = ((h ^ uint64(c)) * 16777619) % (1 << 32)
	}
	return h ^ h/65536
}

func TestP6_1_Sum(t *testing.T) {
	if got := digest.Sum(nil, 8); got != 217 {
		t.Errorf("Sum of no bytes: %d", got)
	}
	// FNV-1a of "a" is e40c292c, and of "foobar" bf9cf968.
	if got := digest.Sum([]byte("a"), 32); got != 0xe40c292c^0xe40c {
		t.Errorf("Sum of a: %x", got)
	}
	if got := digest.Sum([]byte("foobar"), 32); got != 0xbf9cf968^0xbf9c {
		t.Errorf("Sum of foobar: %x", got)
	}
	if digest.Sum([]byte("a"), 16) != (0xe40c292c^0xe40c)&0xffff || digest.Sum([]byte("a"), 1) != 0x292c&1^0xe40c&1 {
		t.Error("the least significant bits")
	}
	r := rand.New(rand.NewSource(8))
	for range 2000 {
		b := make([]byte, r.Intn(40))
		r.Read(b)
		bits := 1 + r.Intn(32)
		if got := digest.Sum(b, bits); uint64(got) != slow(b)%(1<<bits) {
			t.Fatalf("Sum(%v, %d): %d", b, bits, got)
		}
	}
}

func TestP6_1_Limits(t *testing.T) {
	for s, want := range map[string][2]uint32{"": {1, 0x811c9dc5 ^ 0x811c}, "a": {0, 0xe40c292c ^ 0xe40c}} {
		for _, bits := range []int{0, -1, -1 << 63, 1} {
			if got := digest.Sum([]byte(s), bits); got != want[0] {
				t.Errorf("Sum(%q, %d): %d", s, bits, got)
			}
		}
		for _, bits := range []int{32, 33, 64, 1<<63 - 1} {
			if got := digest.Sum([]byte(s), bits); got != want[1] {
				t.Errorf("Sum(%q, %d): %x", s, bits, got)
			}
		}
	}
}

func TestP6_2_Text(t *testing.T) {
	for _, s := range []string{"", "a", "größe", "\xff\x00"} {
		for _, bits := range []int{-3, 1, 8, 31, 32, 99} {
			if digest.Text(s, bits) != digest.Sum([]byte(s), bits) {
				t.Errorf("Text(%q, %d)", s, bits)
			}
		}
	}
}

func TestP6_3_FewerBits(t *testing.T) {
	for _, s := range []string{"", "a", "b", "foobar", "some longer text"} {
		for more := 1; more <= 32; more++ {
			for fewer := 1; fewer <= more; fewer++ {
				if uint64(digest.Text(s, fewer)) != uint64(digest.Text(s, more))%(1<<fewer) {
					t.Errorf("%q with %d and %d bits", s, fewer, more)
				}
			}
		}
	}
}
