package buildcache_test

import (
	"fmt"
	"math/rand"
	"reflect"
	"testing"

	"classroom/api"
	"classroom/buildcache"
)

// object returns an object that depends on n.
func object(n int) api.Object {
	return api.Object{
		Face:  api.Interface{Dir: fmt.Sprint("d", n), Funcs: []api.Signature{{Name: "f", Params: []int{1, 2}, Result: 3}, {Name: "g", Result: 1}}},
		Funcs: []api.Code{{Name: "d.f", Params: []int{1, 2}, Result: 3, Locals: []int{1, 2, 3}, Ins: []api.Instr{{Op: 1, N: n}, {Op: 16}}}},
		Names: []string{"x", "y"},
	}
}

func cache(t *testing.T, bits, room int) *buildcache.Cache {
	t.Helper()
	c, e := buildcache.New(bits, room)
	if e != api.OK || c == nil || c.Len() != 0 {
		t.Fatalf("New(%d, %d): %d", bits, room, e)
	}
	return c
}

// keys returns which of the keys a to f are in a cache, without using them.
func keys(c *buildcache.Cache) string {
	s := ""
	for _, k := range []string{"a", "b", "c", "d", "e", "f"} {
		if _, ok := c.Fork().Get(k); ok {
			s += k
		}
	}
	return s
}

func TestP22_1_New(t *testing.T) {
	for _, x := range [][2]int{{0, 1}, {33, 1}, {-1, 0}, {1, -1}, {1, api.MaxEntries + 1}} {
		if c, e := buildcache.New(x[0], x[1]); c != nil || e != api.ErrRange {
			t.Errorf("New(%d, %d): %v, %d", x[0], x[1], c, e)
		}
	}
	cache(t, 1, 0)
	cache(t, 32, api.MaxEntries)
}

func TestP22_1_NoRoom(t *testing.T) {
	for i, c := range []*buildcache.Cache{nil, {}, cache(t, 8, 0)} {
		c.Put("a", object(1))
		o, ok := c.Get("a")
		if ok || !reflect.DeepEqual(o, api.Object{}) || c.Evict(5) != 0 || c.Len() != 0 {
			t.Errorf("cache %d", i)
		}
		if f := c.Fork(); (f == nil) != (c == nil) || f.Len() != 0 {
			t.Errorf("Fork of cache %d", i)
		}
	}
	f := (&buildcache.Cache{}).Fork()
	if f.Put("a", object(1)); f.Len() != 0 {
		t.Error("Fork of a zero cache")
	}
}

func TestP22_2_GetPut(t *testing.T) {
	c := cache(t, 1, 8)
	for i, k := range []string{"a", "b", "c", "d", "", "a\x00"} {
		c.Put(k, object(i))
	}
	for i, k := range []string{"a", "b", "c", "d", "", "a\x00"} {
		if o, ok := c.Get(k); !ok || !buildcache.Same(o, object(i)) || !reflect.DeepEqual(o, object(i)) {
			t.Errorf("Get(%q): %v, %t", k, o, ok)
		}
	}
	for _, k := range []string{"e", "aa", "A", "a\x00\x00"} {
		if o, ok := c.Get(k); ok || !reflect.DeepEqual(o, api.Object{}) {
			t.Errorf("Get(%q): %v, %t", k, o, ok)
		}
	}
	c.Put("a", object(9))
	if o, _ := c.Get("a"); !buildcache.Same(o, object(9)) || c.Len() != 6 {
		t.Error("Put replaces an object")
	}
}

func TestP22_2_Recent(t *testing.T) {
	c := cache(t, 32, 3)
	for _, k := range []string{"a", "b", "c"} {
		c.Put(k, object(1))
	}
	c.Get("a")
	c.Put("d", object(1))
	if got := keys(c); got != "acd" {
		t.Errorf("after Get: %q", got)
	}
	c.Put("c", object(2))
	c.Put("e", object(1))
	if got := keys(c); got != "cde" {
		t.Errorf("after Put: %q", got)
	}
	c.Get("none")
	c.Put("e", object(5))
	if got := keys(c); got != "cde" || c.Len() != 3 {
		t.Errorf("replacing in a full cache: %q", got)
	}
	one := cache(t, 4, 1)
	one.Put("a", object(1))
	one.Put("b", object(1))
	if got := keys(one); got != "b" {
		t.Errorf("room for one: %q", got)
	}
}

func TestP22_2_Copies(t *testing.T) {
	spoil := func(o api.Object) {
		o.Face.Funcs[0].Params[0], o.Face.Funcs[1].Name = 9, "z"
		o.Funcs[0].Params[0], o.Funcs[0].Locals[0], o.Funcs[0].Ins[0].N = 9, 9, 9
		o.Names[0] = "z"
	}
	c := cache(t, 8, 2)
	o := object(1)
	c.Put("a", o)
	spoil(o)
	got, _ := c.Get("a")
	if !buildcache.Same(got, object(1)) {
		t.Error("Put keeps no reference")
	}
	spoil(got)
	f := c.Fork()
	if again, _ := c.Get("a"); !buildcache.Same(again, object(1)) {
		t.Error("Get returns a copy")
	}
	got, _ = f.Get("a")
	spoil(got)
	if again, _ := c.Get("a"); !buildcache.Same(again, object(1)) {
		t.Error("Fork shares nothing")
	}
	got, _ = c.Get("a")
	got.Funcs[0].Name, got.Face.Funcs = "z", nil
	if again, _ := c.Get("a"); !buildcache.Same(again, object(1)) {
		t.Error("Get returns a copy")
	}
}

func TestP22_3_Evict(t *testing.T) {
	c := cache(t, 8, 5)
	for _, k := range []string{"a", "b", "c", "d"} {
		c.Put(k, object(1))
	}
	c.Get("b")
	if c.Evict(-1) != 0 || c.Evict(0) != 0 || c.Evict(-1<<63) != 0 || c.Len() != 4 {
		t.Error("Evict of nothing")
	}
	f := c.Fork()
	if c.Evict(2) != 2 || keys(c) != "bd" || c.Len() != 2 {
		t.Errorf("Evict of two: %q", keys(c))
	}
	if c.Evict(1<<62) != 2 || c.Len() != 0 || keys(f) != "abcd" {
		t.Error("Evict of all, and Fork is independent")
	}
	f.Put("e", object(1))
	f.Put("f", object(1))
	if keys(f) != "bcdef" || c.Len() != 0 {
		t.Errorf("Fork has the same order: %q", keys(f))
	}
}

func TestP22_4_Same(t *testing.T) {
	changes := []func(o *api.Object){
		func(o *api.Object) {}, func(o *api.Object) { o.Face.Dir = "z" }, func(o *api.Object) { o.Face.Funcs[1].Name = "z" }, func(o *api.Object) { o.Face.Funcs[0].Params[1] = 3 }, func(o *api.Object) { o.Face.Funcs[0].Params = nil }, func(o *api.Object) { o.Face.Funcs[0].Result = 1 }, func(o *api.Object) { o.Face.Funcs = o.Face.Funcs[:1] }, func(o *api.Object) { o.Face.Funcs[0], o.Face.Funcs[1] = o.Face.Funcs[1], o.Face.Funcs[0] },
		func(o *api.Object) { o.Funcs[0].Name = "z" }, func(o *api.Object) { o.Funcs[0].Params[0] = 3 }, func(o *api.Object) { o.Funcs[0].Result = 1 }, func(o *api.Object) { o.Funcs[0].Locals[2] = 1 }, func(o *api.Object) { o.Funcs[0].Locals = o.Funcs[0].Locals[:2] }, func(o *api.Object) { o.Funcs[0].Ins[1].Op = 15 }, func(o *api.Object) { o.Funcs[0].Ins[1].N = 1 }, func(o *api.Object) { o.Funcs[0].Ins = o.Funcs[0].Ins[:1] }, func(o *api.Object) { o.Funcs = nil }, func(o *api.Object) { o.Funcs = append(o.Funcs, api.Code{}) },
		func(o *api.Object) { o.Names[1] = "x" }, func(o *api.Object) { o.Names = o.Names[:1] }, func(o *api.Object) { o.Names[0], o.Names[1] = "y", "x" },
	}
	for i, f := range changes {
		for k, g := range changes {
			a, b := object(1), object(1)
			f(&a)
			g(&b)
			if buildcache.Same(a, b) != (i == k) {
				t.Errorf("Same of %d and %d", i, k)
			}
		}
	}
	if !buildcache.Same(api.Object{}, api.Object{Funcs: []api.Code{}, Names: []string{}}) {
		t.Error("nil and empty are the same")
	}
}

func TestP22_5_Last(t *testing.T) {
	r := rand.New(rand.NewSource(22))
	c := cache(t, 1, 4)
	last := map[string]int{}
	found := 0
	for i := range 5000 {
		k := string(rune('a' + r.Intn(6)))
		switch r.Intn(5) {
		case 0:
			c.Put(k, object(i))
			last[k] = i
			if o, ok := c.Get(k); !ok || !buildcache.Same(o, object(i)) {
				t.Fatal("Get after Put")
			}
		case 1:
			c.Evict(r.Intn(2))
		case 2:
			c = c.Fork()
		default:
			if o, ok := c.Get(k); ok {
				found++
				if !buildcache.Same(o, object(last[k])) {
					t.Fatalf("%q has another object", k)
				}
			}
		}
	}
	if found < 200 {
		t.Errorf("only %d objects were found", found)
	}
}
