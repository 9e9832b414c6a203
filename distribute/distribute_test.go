package distribute_test

import (
	"fmt"
	"math/rand"
	"reflect"
	"strings"
	"testing"

	"classroom/api"
	"classroom/castore"
	"classroom/distribute"
	"classroom/tree"
)

func of(l ...string) api.Tree {
	var t api.Tree
	for i := 0; i+1 < len(l); i += 2 {
		t.Files = append(t.Files, api.Entry{Path: l[i], Content: l[i+1]})
	}
	return t
}

func store(t *testing.T, room int) *castore.Store {
	t.Helper()
	s, e := castore.New(1, room)
	if e != api.OK {
		t.Fatal(e)
	}
	return s
}

func client(t *testing.T, room int) *distribute.Client {
	t.Helper()
	c, e := distribute.NewClient(room)
	if e != api.OK || c == nil || c.Len() != 0 {
		t.Fatal(e)
	}
	return c
}

func key(n int) api.Key { return api.Key{Digest: uint32(n), Number: n % 3} }

// items makes a listing of paths and the numbers of keys.
func items(l ...any) []distribute.Item {
	var r []distribute.Item
	for i := 0; i+1 < len(l); i += 2 {
		r = append(r, distribute.Item{Path: l[i].(string), Key: key(l[i+1].(int))})
	}
	return r
}

func TestP25_1_List(t *testing.T) {
	s, twin := store(t, 8), store(t, 8)
	l, ok := distribute.List(of("a", "x", "b/c", "y", "d", "x", "e", ""), s)
	var want []distribute.Item
	for _, x := range []string{"a x", "b/c y", "d x", "e "} {
		w := strings.Split(x, " ")
		k, _ := twin.Put([]byte(w[1]))
		want = append(want, distribute.Item{Path: w[0], Key: k})
	}
	if !ok || !reflect.DeepEqual(l, want) || s.Len() != 3 {
		t.Errorf("List: %v, %t, want %v", l, ok, want)
	}
	// The contents were put in order: the last two remain, and a use makes a content recent.
	s = store(t, 2)
	if l, ok := distribute.List(of("a", "1", "b", "2", "c", "1", "d", "3"), s); !ok || len(l) != 4 {
		t.Errorf("List with little room: %v", l)
	}
	for content, want := range map[string]bool{"1": true, "2": false, "3": true} {
		if _, ok := s.Find([]byte(content)); ok != want {
			t.Errorf("%q is there: %t", content, ok)
		}
	}
	if l, ok := distribute.List(of(), s); !ok || len(l) != 0 || s.Len() != 2 {
		t.Errorf("List of no files: %v, %t", l, ok)
	}
	k1, _ := s.Put([]byte("new"))
	_, t1 := distribute.List(of(), twin)
	k2, _ := twin.Put([]byte("new"))
	if !t1 || k1.Digest != k2.Digest {
		t.Error("List of no files changes the store")
	}
	for i, bad := range []api.Tree{of("A", "1"), of("a", "1", "a", "2"), of("b", "1", "a", "2"), of("a", "1", "a/b", "2"), of("a", "new1", "b", strings.Repeat("x", 4097))} {
		before := s.Len()
		if l, ok := distribute.List(bad, s); ok || len(l) != 0 || s.Len() != before {
			t.Errorf("tree %d: %v", i, l)
		}
		if _, ok := s.Find([]byte("new1")); ok {
			t.Error("List has put something")
		}
	}
	for _, none := range []*castore.Store{nil, {}} {
		for _, x := range []api.Tree{of(), of("a", "1"), of("A", "")} {
			if l, ok := distribute.List(x, none); ok || len(l) != 0 {
				t.Errorf("no room: %v", l)
			}
		}
	}
}

func TestP25_2_NewClient(t *testing.T) {
	for _, n := range []int{-1, api.MaxFiles + 1, -1 << 63} {
		if c, e := distribute.NewClient(n); c != nil || e != api.ErrRange {
			t.Errorf("NewClient(%d): %v, %d", n, c, e)
		}
	}
	client(t, api.MaxFiles)
	for i, c := range []*distribute.Client{nil, {}, client(t, 0)} {
		l := items("a", 1, "b", 2, "c", 1)
		want := c.Want(l)
		gave := c.Give(key(1), "x")
		tr, e := c.Tree(l)
		empty, e2 := c.Tree(nil)
		if !reflect.DeepEqual(want, []api.Key{key(1), key(2)}) || gave || e != api.ErrNone || len(tr.Files) != 0 || e2 != api.OK || len(empty.Files) != 0 || c.Evict(3) != 0 || c.Len() != 0 {
			t.Errorf("client %d without room", i)
		}
	}
}

func TestP25_3_WantAndGive(t *testing.T) {
	c := client(t, 2)
	l := items("a", 3, "b", 1, "c", 3, "d", 2, "e", 1)
	if got := c.Want(l); !reflect.DeepEqual(got, []api.Key{key(3), key(1), key(2)}) {
		t.Errorf("Want: %v", got)
	}
	if !c.Give(key(1), "one") || c.Give(key(1), "other") || c.Len() != 1 {
		t.Error("Give")
	}
	if got := c.Want(l); !reflect.DeepEqual(got, []api.Key{key(3), key(2)}) {
		t.Errorf("Want: %v", got)
	}
	if got, e := c.Tree(items("a", 1)); e != api.OK || !reflect.DeepEqual(got, of("a", "one")) {
		t.Errorf("a content that was given twice: %v", got)
	}
	// Keys with the same digest are different.
	if !c.Give(api.Key{Digest: 1, Number: 9}, "nine") || c.Len() != 2 {
		t.Error("Give of another number")
	}
	c.Give(key(1), "again")
	if !c.Give(key(2), "two") || c.Len() != 2 {
		t.Error("Give without room")
	}
	if got := c.Want(items("a", 1, "b", 2)); !reflect.DeepEqual(got, []api.Key{key(1)}) {
		t.Errorf("the first content is removed: %v", got)
	}
	if got := c.Want(nil); len(got) != 0 {
		t.Errorf("Want of nothing: %v", got)
	}
}

func TestP25_4_Tree(t *testing.T) {
	c := client(t, 8)
	for i := range 4 {
		c.Give(key(i), fmt.Sprint("content ", i))
	}
	c.Give(key(7), strings.Repeat("x", 4097))
	if got, e := c.Tree(items("b/c", 2, "a", 1, "d", 2)); e != api.OK || !reflect.DeepEqual(got, of("a", "content 1", "b/c", "content 2", "d", "content 2")) {
		t.Errorf("Tree: %v, %d", got, e)
	}
	if got, e := c.Tree(nil); e != api.OK || len(got.Files) != 0 {
		t.Errorf("Tree of nothing: %v, %d", got, e)
	}
	var many []distribute.Item
	for i := range 65 {
		many = append(many, distribute.Item{Path: fmt.Sprint("f", i), Key: key(1)})
	}
	for i, x := range []struct {
		l    []distribute.Item
		want api.Errno
	}{
		{items("a", 9), api.ErrNone}, {items("A", 1, "a", 9), api.ErrNone}, {items("a", 1, "a", 1, "b", 9), api.ErrNone}, {items("A", 1), api.ErrPath}, {items("a", 7), api.ErrLong}, {items("a", 1, "a", 2), api.ErrTwice}, {items("a", 1, "a/b", 2), api.ErrClash}, {many, api.ErrLong}, {append(many, items("x", 9)...), api.ErrNone},
	} {
		if got, e := c.Tree(x.l); e != x.want || len(got.Files) != 0 {
			t.Errorf("Tree %d: %v, %d, want %d", i, got, e, x.want)
		}
	}
}

func TestP25_5_Evict(t *testing.T) {
	c := client(t, 5)
	for i := range 4 {
		c.Give(key(i), "x")
	}
	c.Give(key(0), "y")
	if c.Evict(-1) != 0 || c.Evict(0) != 0 || c.Len() != 4 {
		t.Error("Evict of nothing")
	}
	if c.Evict(2) != 2 || c.Len() != 2 || !reflect.DeepEqual(c.Want(items("a", 0, "b", 1, "c", 2, "d", 3)), []api.Key{key(0), key(1)}) {
		t.Error("Evict of two")
	}
	if c.Evict(1<<62) != 2 || c.Len() != 0 || c.Evict(1) != 0 {
		t.Error("Evict of all")
	}
}

func TestP25_6_Transfer(t *testing.T) {
	r := rand.New(rand.NewSource(25))
	s := store(t, 6)
	c := client(t, 10)
	for range 2000 {
		var l []api.Entry
		for _, p := range []string{"a", "b", "c/d", "c/e"} {
			if r.Intn(3) > 0 {
				l = append(l, api.Entry{Path: p, Content: strings.Repeat("x", r.Intn(9))})
			}
		}
		tr, _ := tree.Build(l)
		listing, ok := distribute.List(tr, s)
		if !ok {
			t.Fatal("List")
		}
		// What the client keeps may have been removed since the last transfer.
		c.Evict(r.Intn(3))
		if r.Intn(20) == 0 {
			c = client(t, 10)
		}
		room := 10 - c.Len()
		want := c.Want(listing)
		if len(want) > room {
			c.Evict(10)
			want = c.Want(listing)
		}
		for _, k := range want {
			b, ok := s.Get(k)
			if !ok || !c.Give(k, string(b)) {
				t.Fatal("Give")
			}
		}
		if len(c.Want(listing)) != 0 {
			t.Fatal("Want after a transfer")
		}
		got, e := c.Tree(listing)
		if e != api.OK || len(tree.Diff(got, tr)) != 0 {
			t.Fatalf("Tree: %v, %d, want %v", got, e, tr)
		}
	}
}
