package castore_test

import (
	"bytes"
	"fmt"
	"math/rand"
	"testing"

	"classroom/api"
	"classroom/castore"
	"classroom/digest"
)

func store(t *testing.T, bits, room int) *castore.Store {
	t.Helper()
	s, e := castore.New(bits, room)
	if e != api.OK || s == nil || s.Len() != 0 {
		t.Fatalf("New(%d, %d): %d", bits, room, e)
	}
	return s
}

func TestP7_1_New(t *testing.T) {
	for _, x := range [][2]int{{0, 1}, {33, 1}, {-1, 1}, {1, 0}, {1, -1}, {1, api.MaxEntries + 1}, {0, 0}} {
		if s, e := castore.New(x[0], x[1]); s != nil || e != api.ErrRange {
			t.Errorf("New(%d, %d): %v, %d", x[0], x[1], s, e)
		}
	}
	store(t, 1, 1)
	store(t, 32, api.MaxEntries)
}

func TestP7_1_NilAndZero(t *testing.T) {
	for _, s := range []*castore.Store{nil, {}} {
		k, ok := s.Put([]byte("a"))
		f, found := s.Find([]byte("a"))
		b, got := s.Get(api.Key{})
		if k != (api.Key{}) || ok || f != (api.Key{}) || found || len(b) != 0 || got || s.Evict(1) != 0 || s.Len() != 0 {
			t.Error("a nil or zero store")
		}
	}
	var none *castore.Store
	if none.Fork() != nil {
		t.Error("Fork of nil")
	}
	f := (&castore.Store{}).Fork()
	if _, ok := f.Put(nil); f == nil || ok {
		t.Error("Fork of a zero store")
	}
}

func TestP7_2_Put(t *testing.T) {
	s := store(t, 1, 8)
	// With one bit, many contents have the same digest.
	count := map[uint32]int{}
	for i := range 6 {
		b := []byte(fmt.Sprint("content ", i))
		want := api.Key{Digest: digest.Sum(b, 1), Number: count[digest.Sum(b, 1)]}
		count[want.Digest]++
		k, ok := s.Put(b)
		if !ok || k != want {
			t.Errorf("Put %d: %v, %t, want %v", i, k, ok, want)
		}
		b[0] = 'x'
		if got, ok := s.Get(k); !ok || string(got) != fmt.Sprint("content ", i) {
			t.Errorf("the store keeps a copy: %q", got)
		}
		if again, ok := s.Put([]byte(fmt.Sprint("content ", i))); !ok || again != k {
			t.Errorf("Put again: %v", again)
		}
	}
	if s.Len() != 6 {
		t.Errorf("Len: %d", s.Len())
	}
	k, ok := s.Put(nil)
	if b, got := s.Get(k); !ok || !got || len(b) != 0 {
		t.Error("the empty content")
	}
	if again, ok := s.Put([]byte{}); !ok || again != k {
		t.Error("nil and empty are the same content")
	}
}

func TestP7_2_Room(t *testing.T) {
	s := store(t, 1, 2)
	var keys []api.Key
	for _, c := range []string{"a", "b", "c"} {
		k, _ := s.Put([]byte(c))
		keys = append(keys, k)
	}
	if keys[0] == keys[1] || keys[0] == keys[2] || keys[1] == keys[2] || s.Len() != 2 {
		t.Errorf("keys %v", keys)
	}
	for i, c := range []string{"", "b", "c"} {
		if b, ok := s.Get(keys[i]); string(b) != c || ok != (c != "") {
			t.Errorf("Get(%v): %q, %t", keys[i], b, ok)
		}
	}
	// A content that was removed gets a new number.
	k, _ := s.Put([]byte("a"))
	if k == keys[0] || k.Digest != keys[0].Digest || k.Number <= keys[0].Number {
		t.Errorf("the key %v after %v", k, keys[0])
	}
}

// left returns which of the contents are in a store.
func left(s *castore.Store, all ...string) string {
	r := ""
	for _, c := range all {
		if _, ok := s.Find([]byte(c)); ok {
			r += c
		}
	}
	return r
}

func TestP7_2_PutUses(t *testing.T) {
	s := store(t, 32, 2)
	s.Put([]byte("a"))
	s.Put([]byte("b"))
	s.Put([]byte("a"))
	s.Put([]byte("c"))
	if got := left(s, "a", "b", "c"); got != "ac" {
		t.Errorf("left: %q", got)
	}
}

func TestP7_3_FindAndGet(t *testing.T) {
	s := store(t, 2, 2)
	a, _ := s.Put([]byte("a"))
	b, _ := s.Put([]byte("b"))
	if k, ok := s.Find([]byte("a")); !ok || k != a {
		t.Errorf("Find: %v, %t", k, ok)
	}
	if k, ok := s.Find([]byte("x")); ok || k != (api.Key{}) {
		t.Errorf("Find of nothing: %v, %t", k, ok)
	}
	for _, k := range []api.Key{{Digest: a.Digest, Number: 7}, {Digest: 9, Number: 0}, {Digest: a.Digest, Number: -1}} {
		if c, ok := s.Get(k); ok || len(c) != 0 {
			t.Errorf("Get(%v): %q", k, c)
		}
	}
	// Find is no use of a.
	s.Put([]byte("c"))
	if got := left(s, "a", "b", "c"); got != "bc" {
		t.Errorf("left: %q", got)
	}
	// Get is a use of b.
	c, ok := s.Get(b)
	if !ok || string(c) != "b" {
		t.Error("Get")
	}
	c[0] = 'z'
	if c, _ := s.Get(b); string(c) != "b" {
		t.Error("Get returns a copy")
	}
	s.Put([]byte("d"))
	if got := left(s, "b", "c", "d"); got != "bd" {
		t.Errorf("left: %q", got)
	}
	if _, ok := s.Get(a); ok {
		t.Error("Get of a content that was removed")
	}
}

func TestP7_4_Evict(t *testing.T) {
	s := store(t, 4, 5)
	for _, c := range []string{"a", "b", "c", "d"} {
		s.Put([]byte(c))
	}
	k, _ := s.Find([]byte("a"))
	s.Get(k)
	if s.Evict(0) != 0 || s.Evict(-5) != 0 || s.Len() != 4 {
		t.Error("Evict of nothing")
	}
	if s.Evict(2) != 2 || left(s, "a", "b", "c", "d") != "ad" || s.Len() != 2 {
		t.Errorf("left: %q", left(s, "a", "b", "c", "d"))
	}
	if s.Evict(3) != 2 || s.Len() != 0 || s.Evict(1<<62) != 0 {
		t.Error("Evict of all")
	}
	if n, _ := s.Put([]byte("a")); n == k {
		t.Error("a key denotes two contents")
	}
}

func TestP7_4_Fork(t *testing.T) {
	s := store(t, 1, 3)
	for _, c := range []string{"a", "b", "c", "a"} {
		s.Put([]byte(c))
	}
	f := s.Fork()
	x, _ := s.Put([]byte("d"))
	y, _ := f.Put([]byte("d"))
	if x != y || left(s, "a", "b", "c", "d") != left(f, "a", "b", "c", "d") || left(f, "a", "b", "c", "d") != "acd" {
		t.Error("Fork has the same state")
	}
	f.Evict(9)
	f.Put([]byte("e"))
	if left(s, "a", "b", "c", "d", "e") != "acd" || left(f, "a", "b", "c", "d", "e") != "e" {
		t.Error("Fork is independent")
	}
	s.Put([]byte("g"))
	s.Put([]byte("h"))
	f2, _ := f.Put([]byte("g"))
	s2, _ := s.Find([]byte("g"))
	if f2.Digest != s2.Digest {
		t.Error("digests")
	}
}

func TestP7_5_Keys(t *testing.T) {
	r := rand.New(rand.NewSource(9))
	s := store(t, 2, 4)
	given := map[api.Key]string{}
	for range 5000 {
		switch r.Intn(6) {
		case 0:
			s.Evict(r.Intn(3))
		case 1:
			s = s.Fork()
		case 2:
			for k, want := range given {
				if b, ok := s.Get(k); ok && string(b) != want {
					t.Fatalf("%v: %q, not %q", k, b, want)
				}
			}
		default:
			b := bytes.Repeat([]byte{byte(r.Intn(4))}, r.Intn(5))
			k, ok := s.Put(b)
			if old, was := given[k]; !ok || was && old != string(b) {
				t.Fatalf("the key %v denotes %q and %q", k, old, b)
			}
			given[k] = string(b)
			if got, ok := s.Get(k); !ok || !bytes.Equal(got, b) {
				t.Fatalf("Get after Put: %q", got)
			}
		}
	}
}
