package loader_test

import (
	"fmt"
	"reflect"
	"strings"
	"testing"

	"classroom/api"
	"classroom/loader"
	"classroom/parser"
)

func of(l ...string) api.Tree {
	var t api.Tree
	for i := 0; i+1 < len(l); i += 2 {
		t.Files = append(t.Files, api.Entry{Path: l[i], Content: l[i+1]})
	}
	return t
}

func parse(t *testing.T, s string) api.File {
	t.Helper()
	f, _, e := parser.Parse(s)
	if e != api.OK {
		t.Fatalf("%q: %d", s, e)
	}
	return f
}

// funcs returns a text with n functions.
func funcs(prefix string, n int) string {
	s := ""
	for i := range n {
		s += fmt.Sprintf("func %s%d() int {}\n", prefix, i)
	}
	return s
}

func TestP11_1_Load(t *testing.T) {
	a, b := `import "x/c"; func f() int { return 1; }`, `import "y/c"; func g() int { return c.h(); }`
	tree := of("lib/a.m", a, "lib/b.m", b, "lib/c.txt", "#", "lib/d.mm", "#", "lib/m", "#", "lib/x/c.m", "#", "top.m", "func f() int {}")
	p, issue := loader.Load(tree, "lib")
	want := api.Package{Dir: "lib", Paths: []string{"lib/a.m", "lib/b.m"}, Files: []api.File{parse(t, a), parse(t, b)}}
	if !reflect.DeepEqual(p, want) || issue != (api.Issue{}) {
		t.Errorf("Load: %v, %v", p, issue)
	}
	p, issue = loader.Load(tree, "")
	if !reflect.DeepEqual(p, api.Package{Paths: []string{"top.m"}, Files: []api.File{parse(t, "func f() int {}")}}) || issue != (api.Issue{}) {
		t.Errorf("Load of the root: %v, %v", p, issue)
	}
	if p, issue := loader.Load(of(".m", "", "d/.m", ""), "d"); issue != (api.Issue{}) || !reflect.DeepEqual(p.Paths, []string{"d/.m"}) {
		t.Errorf("a file without a name: %v, %v", p, issue)
	}
}

func TestP11_1_AnyTree(t *testing.T) {
	p, issue := loader.Load(of("d/b.m", "func b() int {}", "D/x.m", "#", "d/a.m", "func a() int {}", "d/b.m", "func c() int {}", "d/a.m", "func d() int {}"), "d")
	var names []string
	for _, f := range p.Files {
		names = append(names, f.Funcs[0].Name)
	}
	if issue != (api.Issue{}) || !reflect.DeepEqual(p.Paths, []string{"d/a.m", "d/a.m", "d/b.m", "d/b.m"}) || !reflect.DeepEqual(names, []string{"a", "d", "b", "c"}) {
		t.Errorf("%v, %v, %v", p.Paths, names, issue)
	}
	if _, issue := loader.Load(of("d/b.m", "x", "d/a.m", " x"), "d"); issue != (api.Issue{Err: api.ErrSyntax, Path: "d/a.m", At: 1}) {
		t.Errorf("the first source is the one with the smallest path: %v", issue)
	}
	if p, issue := loader.Load(of("A B//\xff.m", ""), "A B/"); issue != (api.Issue{}) || len(p.Files) != 1 {
		t.Errorf("an invalid path: %v", issue)
	}
}

func TestP11_1_Issues(t *testing.T) {
	imports := func(l ...string) string {
		s := ""
		for _, x := range l {
			s += fmt.Sprintf("import %q;\n", x)
		}
		return s
	}
	for i, x := range []struct {
		t    api.Tree
		want api.Issue
	}{
		{of(), api.Issue{Err: api.ErrEmpty}}, {of("d/a", "", "d/x/a.m", "", "a.m", ""), api.Issue{Err: api.ErrEmpty}},
		{of("d/a.m", "#"), api.Issue{Err: api.ErrToken, Path: "d/a.m"}}, {of("d/a.m", "func"), api.Issue{Err: api.ErrSyntax, Path: "d/a.m", At: 4}}, {of("d/a.m", strings.Repeat(" ", 4097)), api.Issue{Err: api.ErrLong, Path: "d/a.m"}},
		{of("d/a.m", "", "d/b.m", "\xff", "d/c.m", "#"), api.Issue{Err: api.ErrRune, Path: "d/b.m"}},
		{of("d/a.m", imports("a/../b")), api.Issue{Err: api.ErrPath, Path: "d/a.m"}}, {of("d/a.m", " "+imports("a", "/b")), api.Issue{Err: api.ErrPath, Path: "d/a.m", At: 13}}, {of("d/a.m", imports("")), api.Issue{Err: api.ErrPath, Path: "d/a.m"}}, {of("d/a.m", imports("A")), api.Issue{Err: api.ErrPath, Path: "d/a.m"}},
		{of("d/a.m", imports("a", "a-b")), api.Issue{Err: api.ErrName, Path: "d/a.m", At: 12}}, {of("d/a.m", imports("1")), api.Issue{Err: api.ErrName, Path: "d/a.m"}}, {of("d/a.m", imports("a/if")), api.Issue{Err: api.ErrName, Path: "d/a.m"}}, {of("d/a.m", imports("a.m")), api.Issue{Err: api.ErrName, Path: "d/a.m"}}, {of("d/a.m", imports("if/a")), api.Issue{}},
		{of("d/a.m", imports("a", "b/a")), api.Issue{Err: api.ErrTwice, Path: "d/a.m", At: 12}}, {of("d/a.m", imports("a", "a")), api.Issue{Err: api.ErrTwice, Path: "d/a.m", At: 12}}, {of("d/a.m", imports("a", "a/b", "b", "A")), api.Issue{Err: api.ErrTwice, Path: "d/a.m", At: 26}}, {of("d/a.m", imports("a"), "d/b.m", imports("x/a")), api.Issue{}}, {of("d/a.m", imports("d")), api.Issue{}},
		{of("d/a.m", "func f() int {} func g() int {} func f() int {}"), api.Issue{Err: api.ErrTwice, Path: "d/a.m", At: 32}}, {of("d/a.m", "func f() int {}", "d/b.m", " func f() bool {}"), api.Issue{Err: api.ErrTwice, Path: "d/b.m", At: 1}},
		{of("d/a.m", "func f() int {}", "d/b.m", "func f() bool {} #"), api.Issue{Err: api.ErrToken, Path: "d/b.m", At: 17}}, {of("d/a.m", "func f() int {}", "d/b.m", imports("A")+"func f() bool {}"), api.Issue{Err: api.ErrPath, Path: "d/b.m"}}, {of("d/a.m", imports("a", "a")+"func f() int {} func f() int {}", "d/b.m", "#"), api.Issue{Err: api.ErrTwice, Path: "d/a.m", At: 12}},
		{of("d/a.m", funcs("a", 64)), api.Issue{}}, {of("d/a.m", funcs("a", 40), "d/b.m", funcs("b", 24)), api.Issue{}}, {of("d/a.m", funcs("a", 40), "d/b.m", funcs("b", 25)), api.Issue{Err: api.ErrLong, Path: "d/b.m", At: len(funcs("b", 24))}}, {of("d/a.m", funcs("a", 64), "d/b.m", "func a0() int {}"), api.Issue{Err: api.ErrTwice, Path: "d/b.m"}}, {of("d/a.m", funcs("a", 64), "d/b.m", " func b() int {} func a0() int {}"), api.Issue{Err: api.ErrLong, Path: "d/b.m", At: 1}},
	} {
		p, issue := loader.Load(x.t, "d")
		if issue != x.want || (issue != (api.Issue{})) != reflect.DeepEqual(p, api.Package{}) {
			t.Errorf("Load %d: %v, want %v", i, issue, x.want)
		}
	}
}

func TestP11_2_Imports(t *testing.T) {
	p := api.Package{Files: []api.File{{Imports: []api.Import{{Path: "b"}, {Path: "a/x"}, {Path: "B"}}}, {}, {Imports: []api.Import{{Path: "a/x"}, {Path: ""}, {Path: "b"}, {Path: "a"}}}}}
	if got := loader.Imports(p); !reflect.DeepEqual(got, []string{"", "B", "a", "a/x", "b"}) {
		t.Errorf("Imports: %q", got)
	}
	if got := loader.Imports(api.Package{}); len(got) != 0 {
		t.Errorf("Imports of nothing: %q", got)
	}
}

func TestP11_3_Dirs(t *testing.T) {
	if got := loader.Dirs(of("z/a.m", "", "a.m", "#", "b/c/x.m", "", "b/y", "", "b/x.m", "", "z/b.m", "", "q/x.mm", "", ".m", "", "b-c/x.m", "")); !reflect.DeepEqual(got, []string{"", "b", "b-c", "b/c", "z"}) {
		t.Errorf("Dirs: %q", got)
	}
	if got := loader.Dirs(of("a", "", "b/m", "")); len(got) != 0 {
		t.Errorf("Dirs of nothing: %q", got)
	}
}

func TestP11_4_OtherFiles(t *testing.T) {
	a, ia := loader.Load(of("d/a.m", "func f() int {}", "d/b.m", ""), "d")
	b, ib := loader.Load(of("a.m", "#", "d/a", "#", "d/a.m", "func f() int {}", "d/b.m", "", "d/c/x.m", "#", "e/a.m", "func f() int {}"), "d")
	if !reflect.DeepEqual(a, b) || ia != ib {
		t.Errorf("%v, %v", a, b)
	}
	b.Paths[0] = "x"
	if c, _ := loader.Load(of("d/a.m", "func f() int {}", "d/b.m", ""), "d"); !reflect.DeepEqual(a, c) {
		t.Error("results are independent")
	}
}
