package builder_test

import (
	"fmt"
	"math/rand"
	"reflect"
	"strings"
	"testing"

	"classroom/api"
	"classroom/buildcache"
	"classroom/builder"
	"classroom/buildkey"
	"classroom/checker"
	"classroom/compiler"
	"classroom/depgraph"
	"classroom/loader"
	"classroom/tree"
	"classroom/vm"
)

func of(l ...string) api.Tree {
	var t api.Tree
	for i := 0; i+1 < len(l); i += 2 {
		t.Files = append(t.Files, api.Entry{Path: l[i], Content: l[i+1]})
	}
	return t
}

func cache(t *testing.T, room int) *buildcache.Cache {
	t.Helper()
	c, e := buildcache.New(8, room)
	if e != api.OK {
		t.Fatal(e)
	}
	return c
}

// course has the packages a, which imports b and c, and b, which imports c.
func course() api.Tree {
	return of("a/a.m", `import "b"; import "c"; func f() int { return b.g() + c.h(1); }`, "a/x.txt", "", "b/a.m", `import "c"; func g() int { return c.h(20); }`, "c/a.m", `func h(n int) int { return n + k(); }`, "c/b.m", "func k() int { return 1; }", "d/a.m", "#")
}

func TestP23_1_Make(t *testing.T) {
	b, issue := builder.Make(course(), []string{"a"}, nil)
	if issue != (api.Issue{}) || b == nil {
		t.Fatal(issue)
	}
	if !reflect.DeepEqual(b.Dirs(), []string{"a", "b", "c"}) || b.Compiled() != 3 {
		t.Errorf("%v, %d", b.Dirs(), b.Compiled())
	}
	r := vm.Run(b.Program(), "a.f", nil, api.Bounds{Fuel: 99, Calls: 9})
	if r.End != api.RunDone || r.Value.Num != 23 {
		t.Errorf("the program: %+v", r)
	}
	b, issue = builder.Make(course(), []string{"c", "b", "c"}, nil)
	if issue != (api.Issue{}) || !reflect.DeepEqual(b.Dirs(), []string{"b", "c"}) {
		t.Errorf("several roots: %v", issue)
	}
}

func TestP23_1_Issues(t *testing.T) {
	// Each function has size nodes.
	wide := func(size int) string {
		return "func f() list { return [" + strings.TrimSuffix(strings.Repeat("1,", size-2), ",") + "]; }"
	}
	var big api.Tree
	for i := range 16 {
		big.Files = append(big.Files, api.Entry{Path: fmt.Sprintf("p%02d/a.m", i), Content: wide(500)})
	}
	roots := loader.Dirs(big)
	for i, x := range []struct {
		t     api.Tree
		roots []string
		want  api.Issue
	}{
		{course(), nil, api.Issue{Err: api.ErrEmpty}}, {of(), nil, api.Issue{Err: api.ErrEmpty}}, {course(), []string{"x"}, api.Issue{Err: api.ErrEmpty}}, {course(), []string{"d"}, api.Issue{Err: api.ErrToken, Path: "d/a.m"}}, {of("a/a.m", `import "z";`), []string{"a"}, api.Issue{Err: api.ErrImport, Path: "a/a.m"}},
		{of("a/a.m", `import "b";`, "b/a.m", `import "a"; func f() int { return true; }`), []string{"b"}, api.Issue{Err: api.ErrCycle, Path: "a/a.m"}}, {of("a/a.m", `import "a";`, "b/a.m", "#"), []string{"a", "b"}, api.Issue{Err: api.ErrToken, Path: "b/a.m"}},
		{of("a/a.m", `import "b"; func f() int { return true; }`, "b/a.m", "func g() int { }"), []string{"a"}, api.Issue{Err: api.ErrReturn, Path: "b/a.m"}}, {of("a/a.m", "func f() int { return true; }", "b/a.m", "func g() int { }"), []string{"b", "a"}, api.Issue{Err: api.ErrType, Path: "a/a.m", At: 22}}, {of("a/a.m", `import "c"; func f() int { return c.x(); }`, "b/a.m", "func g() int { }", "c/a.m", ""), []string{"a", "b"}, api.Issue{Err: api.ErrReturn, Path: "b/a.m"}}, {of("a/a.m", `import "b"; func f() int { return b.x(); }`, "b/a.m", ""), []string{"a"}, api.Issue{Err: api.ErrName, Path: "a/a.m", At: 34}},
		{big, roots, api.Issue{}}, {of(append([]string{"a/a.m", wide(192)}, flat(big)...)...), append(roots, "a"), api.Issue{}}, {of(append([]string{"a/a.m", wide(193)}, flat(big)...)...), append(roots, "a"), api.Issue{Err: api.ErrLong}}, {of(append([]string{"a/a.m", strings.Replace(wide(193), "list", "int", 1)}, flat(big)...)...), append(roots, "a"), api.Issue{Err: api.ErrLong}},
		{of(append([]string{"a/a.m", `import "a";` + wide(193)}, flat(big)...)...), append(roots, "a"), api.Issue{Err: api.ErrCycle, Path: "a/a.m"}},
	} {
		for _, c := range []*buildcache.Cache{nil, cache(t, 32)} {
			b, issue := builder.Make(x.t, x.roots, c)
			if issue != x.want || (b == nil) != (issue != (api.Issue{})) {
				t.Errorf("Make %d: %v, want %v", i, issue, x.want)
			}
		}
	}
}

func flat(t api.Tree) []string {
	var l []string
	for _, f := range t.Files {
		l = append(l, f.Path, f.Content)
	}
	return l
}

func TestP23_1_Cache(t *testing.T) {
	c := cache(t, 8)
	make := func(t0 api.Tree, roots ...string) *builder.Build {
		t.Helper()
		b, issue := builder.Make(t0, roots, c)
		if issue != (api.Issue{}) {
			t.Fatal(issue)
		}
		return b
	}
	if b := make(course(), "b"); b.Compiled() != 2 || c.Len() != 2 {
		t.Errorf("b: %d", b.Compiled())
	}
	if b := make(course(), "a"); b.Compiled() != 1 || c.Len() != 3 {
		t.Errorf("a: %d", b.Compiled())
	}
	if b := make(course(), "a"); b.Compiled() != 0 {
		t.Errorf("a again: %d", b.Compiled())
	}
	other, _ := tree.Put(course(), "b/z.m", "func z() int { return 1; }")
	if b := make(other, "a"); b.Compiled() != 2 || c.Len() != 5 {
		t.Errorf("after a change of b: %d", b.Compiled())
	}
	if b := make(course(), "a", "c"); b.Compiled() != 0 {
		t.Errorf("a once more: %d", b.Compiled())
	}
	c.Evict(99)
	if b := make(course(), "a"); b.Compiled() != 3 {
		t.Errorf("after Evict: %d", b.Compiled())
	}
	// The objects are under the keys of layer 21.
	l, _ := depgraph.Closure(course(), []string{"a"})
	keys, _ := buildkey.Keys(course(), l)
	var faces []api.Interface
	for k := len(l) - 1; k >= 0; k-- {
		want, _ := compiler.Compile(l[k], faces)
		if o, ok := c.Get(keys[k]); !ok || !buildcache.Same(o, want) {
			t.Errorf("the object of %s: %v, %t", l[k].Dir, o, ok)
		}
		faces = append(faces, want.Face)
	}
	// What is there is not compiled.
	p, _ := loader.Load(of("c/a.m", "func h(n int) int { return 7; }"), "c")
	o, _ := compiler.Compile(p, nil)
	c.Put(keys[2], o)
	if r := vm.Run(make(course(), "c").Program(), "c.h", []api.Value{{Type: api.Int}}, api.Bounds{Fuel: 9, Calls: 9}); r.Value.Num != 7 {
		t.Errorf("an object from the cache: %+v", r)
	}
	// A package with an issue is not stored, but those before it are.
	c = cache(t, 8)
	if _, issue := builder.Make(of("a/a.m", `import "b"; func f() int { }`, "b/a.m", ""), []string{"a"}, c); issue.Err != api.ErrReturn || c.Len() != 1 {
		t.Errorf("%v, %d", issue, c.Len())
	}
}

func TestP23_2_Build(t *testing.T) {
	b, _ := builder.Make(course(), []string{"a"}, nil)
	l, _ := depgraph.Closure(course(), []string{"a"})
	var objects [3]api.Object
	var faces []api.Interface
	for _, k := range []int{2, 1, 0} {
		objects[k], _ = compiler.Compile(l[k], faces)
		faces = append(faces, objects[k].Face)
	}
	want, _ := compiler.Link(objects[:])
	if !reflect.DeepEqual(b.Program(), want) {
		t.Errorf("Program: %v, want %v", b.Program(), want)
	}
	for k, dir := range []string{"a", "b", "c"} {
		f, ok := b.Face(dir)
		if !ok || !reflect.DeepEqual(f, objects[k].Face) {
			t.Errorf("Face(%q): %v, %t", dir, f, ok)
		}
	}
	for _, dir := range []string{"", "d", "x"} {
		if f, ok := b.Face(dir); ok || !reflect.DeepEqual(f, api.Interface{}) {
			t.Errorf("Face(%q): %v", dir, f)
		}
	}
	// All results are new.
	p, f, d := b.Program(), func() api.Interface { f, _ := b.Face("c"); return f }(), b.Dirs()
	p.Funcs[0].Ins[0].N, f.Funcs[0].Name, f.Funcs[0].Params[0], d[0] = 77, "z", 9, "z"
	if again, _ := b.Face("c"); !reflect.DeepEqual(b.Program(), want) || !reflect.DeepEqual(again, objects[2].Face) || b.Dirs()[0] != "a" {
		t.Error("the build shares memory with its results")
	}
	var none *builder.Build
	if f, ok := none.Face("a"); ok || !reflect.DeepEqual(f, api.Interface{}) || len(none.Program().Funcs) != 0 || len(none.Dirs()) != 0 || none.Compiled() != 0 {
		t.Error("a nil build")
	}
	if _, issue := checker.Check(l[2], nil); issue != (api.Issue{}) {
		t.Error(issue)
	}
}

func TestP23_3_CacheDoesNotMatter(t *testing.T) {
	r := rand.New(rand.NewSource(23))
	sources := []string{"", "func f() int { return 1; }", "func f() int { return 2; }", `import "b"; func f() int { return b.f(); }`, `import "c"; func f() int { return c.f() + 1; }`, "func f() bool { return true; }", "func f() int { }", `import "b"; import "c"; func f() int { return b.f() + c.f(); }`}
	small, large := cache(t, 2), cache(t, 32)
	good := 0
	for range 2000 {
		var tree api.Tree
		for _, p := range []string{"a/a.m", "b/a.m", "b/b.m", "c/a.m"} {
			if r.Intn(4) > 0 {
				tree.Files = append(tree.Files, api.Entry{Path: p, Content: sources[r.Intn(len(sources))]})
			}
		}
		roots := []string{"a", "b", "c"}[r.Intn(3):]
		b0, i0 := builder.Make(tree, roots, nil)
		b1, i1 := builder.Make(tree, roots, small)
		b2, i2 := builder.Make(tree, roots, large)
		if i0 != i1 || i0 != i2 || !reflect.DeepEqual(b0.Program(), b1.Program()) || !reflect.DeepEqual(b0.Program(), b2.Program()) || !reflect.DeepEqual(b0.Dirs(), b2.Dirs()) {
			t.Fatalf("%v: %v, %v, %v", tree, i0, i1, i2)
		}
		if i0 != (api.Issue{}) {
			continue
		}
		good++
		if b, _ := builder.Make(tree, roots, large); b.Compiled() != 0 {
			t.Fatalf("%d packages were compiled again", b.Compiled())
		}
		if b0.Compiled() != len(b0.Dirs()) || b2.Compiled() > len(b2.Dirs()) {
			t.Fatalf("%d of %d packages were compiled", b2.Compiled(), len(b2.Dirs()))
		}
		if r.Intn(10) == 0 {
			large.Evict(r.Intn(3))
		}
	}
	if good < 200 {
		t.Errorf("only %d builds", good)
	}
}

func TestP23_4_OtherFiles(t *testing.T) {
	a, _ := builder.Make(course(), []string{"b"}, nil)
	b, issue := builder.Make(of("a/a.m", "#", "b/a.m", course().Files[2].Content, "b/a.txt", "#", "b/x/a.m", "#", "c/a.m", course().Files[3].Content, "c/b.m", course().Files[4].Content), []string{"b"}, nil)
	if issue != (api.Issue{}) || !reflect.DeepEqual(a.Program(), b.Program()) || !reflect.DeepEqual(a.Dirs(), b.Dirs()) {
		t.Errorf("other files: %v", issue)
	}
}
