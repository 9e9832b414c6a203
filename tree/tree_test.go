package tree_test

import (
	"fmt"
	"math/rand"
	"reflect"
	"strings"
	"testing"

	"classroom/api"
	"classroom/tree"
)

// entries makes files of paths and contents in turn.
func entries(l ...string) []api.Entry {
	var f []api.Entry
	for i := 0; i+1 < len(l); i += 2 {
		f = append(f, api.Entry{Path: l[i], Content: l[i+1]})
	}
	return f
}

func of(l ...string) api.Tree { return api.Tree{Files: entries(l...)} }

func equal(a, b api.Tree) bool {
	return len(a.Files) == 0 && len(b.Files) == 0 || reflect.DeepEqual(a.Files, b.Files)
}

// many returns n files.
func many(n int) []api.Entry {
	var l []api.Entry
	for i := range n {
		l = append(l, api.Entry{Path: fmt.Sprintf("f%03d", i), Content: "x"})
	}
	return l
}

var tooLong = strings.Repeat("x", api.MaxContent+1)

func TestP4_1_Check(t *testing.T) {
	for i, x := range []struct {
		t    api.Tree
		want api.Errno
	}{
		{of(), api.OK}, {of("a", "", "b", "x"), api.OK}, {api.Tree{Files: many(64)}, api.OK}, {api.Tree{Files: many(65)}, api.ErrLong},
		{of("a", tooLong[1:]), api.OK}, {of("a", tooLong), api.ErrLong}, {of("A", tooLong), api.ErrPath}, {of("", ""), api.ErrPath}, {of("a/", ""), api.ErrPath},
		{of("b", "", "a", ""), api.ErrTwice}, {of("a", "", "a", "x"), api.ErrTwice}, {of("b", "", "a", tooLong), api.ErrLong}, {of("b", "", "A", ""), api.ErrPath},
		{of("b", "", "a", "", "A", ""), api.ErrTwice}, {of("a", tooLong, "A", ""), api.ErrLong},
		{of("a", "", "a/b", ""), api.ErrClash}, {of("a", "", "a-b", "", "a/x", ""), api.ErrClash}, {of("a", "", "a/b", "", "A", ""), api.ErrPath}, {of("a", "", "a/b", "", "a", ""), api.ErrTwice},
		{of("a/b", "", "a/b/c/d", ""), api.ErrClash}, {of("a-b", "", "a/b", "", "ab", ""), api.OK},
		{api.Tree{Files: append(many(64), api.Entry{Path: "A"})}, api.ErrLong},
	} {
		if e := tree.Check(x.t); e != x.want {
			t.Errorf("Check %d: %d, want %d", i, e, x.want)
		}
	}
}

func TestP4_2_Build(t *testing.T) {
	l := entries("b", "1", "a/y", "2", "a-x", "3", "a/x", "4")
	got, e := tree.Build(l)
	if e != api.OK || !equal(got, of("a-x", "3", "a/x", "4", "a/y", "2", "b", "1")) {
		t.Errorf("Build: %v, %d", got, e)
	}
	if !reflect.DeepEqual(l, entries("b", "1", "a/y", "2", "a-x", "3", "a/x", "4")) {
		t.Error("Build changes its argument")
	}
	got.Files[0].Path = "changed"
	if l[2].Path != "a-x" {
		t.Error("Build keeps its argument")
	}
	if got, e := tree.Build(nil); e != api.OK || len(got.Files) != 0 {
		t.Error("Build of nothing")
	}
	if got, e := tree.Build(many(64)); e != api.OK || len(got.Files) != 64 {
		t.Error("Build of MaxFiles files")
	}
	for i, x := range []struct {
		l    []api.Entry
		want api.Errno
	}{
		{many(65), api.ErrLong}, {append(many(64), api.Entry{Path: "A"}), api.ErrLong}, {entries("A", tooLong), api.ErrPath}, {entries("a", tooLong), api.ErrLong}, {entries("a", "", "a", tooLong), api.ErrLong},
		{entries("b", "", "a", "", "b", ""), api.ErrTwice}, {entries("b", "", "b", "", "A", ""), api.ErrTwice}, {entries("b", "", "A", "", "b", ""), api.ErrPath}, {entries("b", tooLong, "A", ""), api.ErrLong},
		{entries("a/b", "", "a", ""), api.ErrClash}, {entries("a", "", "a-b", "", "a/x", ""), api.ErrClash}, {entries("a/b", "", "a", "", "a", ""), api.ErrTwice}, {entries("a/b", "", "a", "", "/", ""), api.ErrPath},
	} {
		if got, e := tree.Build(x.l); e != x.want || len(got.Files) != 0 {
			t.Errorf("Build %d: %v, %d, want %d", i, got, e, x.want)
		}
	}
}

func TestP4_3_Get(t *testing.T) {
	odd := of("b", "1", "A", "2", "b", "3", "", "4")
	for p, want := range map[string]string{"b": "1", "A": "2", "": "4"} {
		if s, ok := tree.Get(odd, p); s != want || !ok {
			t.Errorf("Get(%q): %q, %t", p, s, ok)
		}
	}
	if s, ok := tree.Get(odd, "c"); s != "" || ok {
		t.Error("Get of a file that does not exist")
	}
	if s, ok := tree.Get(of("a", ""), "a"); s != "" || !ok {
		t.Error("Get of an empty file")
	}
	if _, ok := tree.Get(api.Tree{}, ""); ok {
		t.Error("Get from the empty tree")
	}
}

func TestP4_4_Put(t *testing.T) {
	base := of("a", "1", "c", "3")
	for _, x := range []struct {
		path string
		want api.Tree
	}{{"b", of("a", "1", "b", "x", "c", "3")}, {"a", of("a", "x", "c", "3")}, {"d/e", of("a", "1", "c", "3", "d/e", "x")}} {
		if got, e := tree.Put(base, x.path, "x"); e != api.OK || !equal(got, x.want) {
			t.Errorf("Put(%q): %v, %d", x.path, got, e)
		}
	}
	if !equal(base, of("a", "1", "c", "3")) {
		t.Error("Put changes its argument")
	}
	for i, x := range []struct {
		t             api.Tree
		path, content string
		want          api.Errno
	}{
		{base, "A", "", api.ErrPath}, {base, "b", tooLong, api.ErrLong}, {base, "a", tooLong, api.ErrLong}, {base, "A", tooLong, api.ErrPath}, {base, "a/b", "", api.ErrClash}, {of("a/b", ""), "a", "", api.ErrClash},
		{api.Tree{Files: many(64)}, "x", "", api.ErrLong}, {api.Tree{Files: many(64)}, "A", "", api.ErrLong}, {api.Tree{Files: many(65)}, "A", "", api.ErrLong},
		{of("b", "", "a", ""), "A", "", api.ErrTwice}, {of("a", tooLong), "a", "x", api.ErrLong}, {of("a", "", "a/b", ""), "A", "", api.ErrClash}, {of("B", ""), "B", "", api.ErrPath},
	} {
		if got, e := tree.Put(x.t, x.path, x.content); e != x.want || len(got.Files) != 0 {
			t.Errorf("Put %d: %v, %d, want %d", i, got, e, x.want)
		}
	}
	if got, e := tree.Put(api.Tree{Files: many(64)}, "f000", "y"); e != api.OK || len(got.Files) != 64 || got.Files[0].Content != "y" {
		t.Error("Put changes a file of a full tree")
	}
}

func TestP4_4_Remove(t *testing.T) {
	base := of("a", "1", "b", "2")
	if got, ok := tree.Remove(base, "a"); !ok || !equal(got, of("b", "2")) {
		t.Errorf("Remove: %v, %t", got, ok)
	}
	if !equal(base, of("a", "1", "b", "2")) {
		t.Error("Remove changes its argument")
	}
	got, ok := tree.Remove(base, "c")
	if ok || !equal(got, base) {
		t.Errorf("Remove of nothing: %v, %t", got, ok)
	}
	got.Files[0].Path = "x"
	if base.Files[0].Path != "a" {
		t.Error("the result of Remove is not new")
	}
	odd := of("b", "1", "A", "", "b", "2", "a", tooLong)
	if got, ok := tree.Remove(odd, "b"); !ok || !equal(got, of("A", "", "a", tooLong)) {
		t.Errorf("Remove of several files: %v, %t", got, ok)
	}
	if got, ok := tree.Remove(odd, "c"); ok || !equal(got, odd) {
		t.Error("Remove of nothing from any tree")
	}
	if got, ok := tree.Remove(of("a", ""), "a"); !ok || len(got.Files) != 0 {
		t.Error("Remove of the only file")
	}
}

func TestP4_5_Overlay(t *testing.T) {
	for i, x := range []struct{ base, over, want api.Tree }{
		{of("a/x", "1", "b", "2"), of("b", "3", "c/y", "4"), of("a/x", "1", "b", "3", "c/y", "4")},
		{of(), of("b", "3"), of("b", "3")}, {of("b", "3"), of(), of("b", "3")}, {of(), of(), of()}, {of("b", "3"), of("a", "1"), of("a", "1", "b", "3")},
	} {
		if got, e := tree.Overlay(x.base, x.over); e != api.OK || !equal(got, x.want) {
			t.Errorf("Overlay %d: %v, %d", i, got, e)
		}
	}
	if got, e := tree.Overlay(api.Tree{Files: many(64)}, api.Tree{Files: many(3)}); e != api.OK || len(got.Files) != 64 {
		t.Error("Overlay of the same files")
	}
	for i, x := range []struct {
		base, over api.Tree
		want       api.Errno
	}{
		{of("A", ""), of("a", tooLong), api.ErrPath}, {of("a", tooLong), of("A", ""), api.ErrLong}, {of("a", ""), of("A", ""), api.ErrPath}, {of("a", ""), of("b", "", "b", ""), api.ErrTwice},
		{of("b", "", "a", ""), of("A", ""), api.ErrTwice}, {api.Tree{Files: many(64)}, of("x", ""), api.ErrLong}, {api.Tree{Files: many(64)}, of("f000/x", ""), api.ErrLong},
		{of("a", ""), of("a/b", ""), api.ErrClash}, {of("a/b", ""), of("a", ""), api.ErrClash}, {of("a", "", "a-b", ""), of("a/x", ""), api.ErrClash},
	} {
		if got, e := tree.Overlay(x.base, x.over); e != x.want || len(got.Files) != 0 {
			t.Errorf("Overlay %d: %v, %d, want %d", i, got, e, x.want)
		}
	}
}

// Two results share no memory, even if the tree has room for more files.
func TestP4_5_Roomy(t *testing.T) {
	roomy := api.Tree{Files: append(make([]api.Entry, 0, 9), entries("b", "1")...)}
	for i, f := range []func(p string) (api.Tree, api.Errno){
		func(p string) (api.Tree, api.Errno) { return tree.Put(roomy, p, "x") },
		func(p string) (api.Tree, api.Errno) { return tree.Overlay(of(p, "x"), roomy) },
		func(p string) (api.Tree, api.Errno) { return tree.Overlay(roomy, of(p, "x")) },
	} {
		for _, p := range [][2]string{{"c", "d"}, {"a", "c"}} {
			x, _ := f(p[0])
			y, _ := f(p[1])
			_, ok1 := tree.Get(x, p[0])
			_, ok2 := tree.Get(y, p[1])
			if !ok1 || !ok2 || !equal(roomy, of("b", "1")) {
				t.Errorf("%d: %v, %v", i, x, y)
			}
		}
	}
}

func TestP4_6_Diff(t *testing.T) {
	a, b := of("a", "1", "b", "2", "d", "4", "e", "5"), of("b", "3", "c", "x", "d", "4", "f", "6")
	want := []api.Change{{Path: "a", Kind: api.Removed}, {Path: "b", Kind: api.Changed}, {Path: "c", Kind: api.Added}, {Path: "e", Kind: api.Removed}, {Path: "f", Kind: api.Added}}
	if got := tree.Diff(a, b); !reflect.DeepEqual(got, want) {
		t.Errorf("Diff: %v", got)
	}
	if got := tree.Diff(of(), of("a", "")); !reflect.DeepEqual(got, []api.Change{{Path: "a", Kind: api.Added}}) {
		t.Errorf("Diff: %v", got)
	}
	if got := tree.Diff(of("a", ""), of()); !reflect.DeepEqual(got, []api.Change{{Path: "a", Kind: api.Removed}}) {
		t.Errorf("Diff: %v", got)
	}
	tree.Diff(of("b", "", "A", ""), of("b", "", "b", "", "a", "")) // must end
}

func TestP4_7_Sub(t *testing.T) {
	a := of("a", "1", "a-b", "2", "a/b", "3", "a/b/c", "4", "ab", "5")
	for dir, want := range map[string]api.Tree{
		"": a, "a": of("a", "1", "a/b", "3", "a/b/c", "4"), "a/b": of("a/b", "3", "a/b/c", "4"), "x": of(), "a/": of(), "ab": of("ab", "5"),
	} {
		if got := tree.Sub(a, dir); !equal(got, want) {
			t.Errorf("Sub(%q): %v", dir, got)
		}
	}
	if got := tree.Sub(of("b", "1", "A/x", "2", "b", "3"), "b"); !equal(got, of("b", "1", "b", "3")) {
		t.Errorf("Sub of any tree: %v", got)
	}
	got := tree.Sub(a, "")
	got.Files[0].Path = "x"
	if a.Files[0].Path != "a" {
		t.Error("the result of Sub is not new")
	}
}

func TestP4_8_Properties(t *testing.T) {
	r := rand.New(rand.NewSource(6))
	paths := []string{"a", "a/x", "a/y", "b", "b/z", "c", "a-b"}
	random := func() api.Tree {
		for {
			var l []api.Entry
			for _, p := range paths {
				if r.Intn(3) == 0 {
					l = append(l, api.Entry{Path: p, Content: string(rune('0' + r.Intn(3)))})
				}
			}
			r.Shuffle(len(l), func(i, k int) { l[i], l[k] = l[k], l[i] })
			if t, e := tree.Build(l); e == api.OK {
				return t
			}
		}
	}
	for range 3000 {
		a, b, c := random(), random(), random()
		if tree.Check(a) != api.OK {
			t.Fatal("Build returns an invalid tree")
		}
		ab, e1 := tree.Overlay(a, b)
		bc, e2 := tree.Overlay(b, c)
		if e1 == api.OK && e2 == api.OK {
			x, e3 := tree.Overlay(ab, c)
			y, e4 := tree.Overlay(a, bc)
			if e3 == api.OK && e4 == api.OK && !equal(x, y) {
				t.Fatalf("Overlay is not associative: %v, %v, %v", a, b, c)
			}
		}
		d := tree.Diff(a, b)
		if (len(d) == 0) != equal(a, b) {
			t.Fatalf("Diff of %v and %v", a, b)
		}
		patch(t, a, b, d)
	}
}

// patch applies a difference of two trees.
func patch(t *testing.T, a, b api.Tree, d []api.Change) {
	got := a
	for _, c := range d {
		if c.Kind == api.Removed {
			got, _ = tree.Remove(got, c.Path)
		}
	}
	for _, c := range d {
		if c.Kind != api.Removed {
			s, _ := tree.Get(b, c.Path)
			var e api.Errno
			if got, e = tree.Put(got, c.Path, s); e != api.OK {
				t.Fatalf("Put: %d", e)
			}
		}
	}
	if !equal(got, b) {
		t.Fatalf("%v with %v is %v, not %v", a, d, got, b)
	}
}
