package checker_test

import (
	"fmt"
	"reflect"
	"strings"
	"testing"

	"classroom/api"
	"classroom/checker"
	"classroom/loader"
)

// load returns the package m with these sources, which are m/a.m, m/b.m and so on.
func load(t *testing.T, sources ...string) api.Package {
	t.Helper()
	var tree api.Tree
	for i, s := range sources {
		tree.Files = append(tree.Files, api.Entry{Path: fmt.Sprintf("m/%c.m", 'a'+i), Content: s})
	}
	p, issue := loader.Load(tree, "m")
	if issue != (api.Issue{}) {
		t.Fatalf("%q: %v", sources, issue)
	}
	return p
}

// faces has the packages x/lib and q.
var faces = []api.Interface{
	{Dir: "x/lib", Funcs: []api.Signature{{Name: "sum", Params: []int{api.Int, api.Int}, Result: api.Int}, {Name: "yes", Result: api.Bool}}},
	{Dir: "q", Funcs: []api.Signature{{Name: "all", Params: []int{api.List}, Result: api.List}}},
	{Dir: "q", Funcs: []api.Signature{{Name: "late", Result: api.Int}}},
}

// check expects an error at the mark ^ in the text, which is left out before, or none if there is no mark.
func check(t *testing.T, want api.Errno, marked string) {
	t.Helper()
	at := strings.IndexByte(marked, '^')
	face, issue := checker.Check(load(t, strings.Replace(marked, "^", "", 1)), faces)
	if at < 0 {
		if issue != (api.Issue{}) {
			t.Errorf("%q: %v", marked, issue)
		}
		return
	}
	if issue != (api.Issue{Err: want, Path: "m/a.m", At: at}) || !reflect.DeepEqual(face, api.Interface{}) {
		t.Errorf("%q: %v, want %d at %d", marked, issue, want, at)
	}
}

// expr checks an expression in a function with the variables i, b and l.
func expr(t *testing.T, want api.Errno, marked string) {
	t.Helper()
	check(t, want, `import "x/lib"; import "q"; func g(i int, b bool, l list) int { return 1; } func v() list { return []; } func f(i int, b bool, l list) int { let x = `+marked+"; return 0; }")
}

func TestP12_1_Interface(t *testing.T) {
	p := load(t, "func z(a int, b bool, c list) int { return a; } func a() bool { return true; }", "func m() list { return [1]; } func Z() int { return 1; }")
	want := api.Interface{Dir: "m", Funcs: []api.Signature{
		{Name: "Z", Result: api.Int}, {Name: "a", Result: api.Bool}, {Name: "m", Result: api.List}, {Name: "z", Params: []int{api.Int, api.Bool, api.List}, Result: api.Int}}}
	face, issue := checker.Check(p, nil)
	if issue != (api.Issue{}) || !reflect.DeepEqual(face, want) {
		t.Errorf("%v, %v", face, issue)
	}
	if face, issue := checker.Check(load(t, ""), nil); issue != (api.Issue{}) || !reflect.DeepEqual(face, api.Interface{Dir: "m"}) {
		t.Errorf("a package without functions: %v, %v", face, issue)
	}
}

func TestP12_1_Types(t *testing.T) {
	for _, s := range []string{
		"1 + 2 * 3 - 4 / 5 % 6 == -7", "true && false || !b", "1 == i", "b != true", "(1 < 2) == (3 >= 4)", "i <= 1 && i > 2", "[1, i, -2]", "l[0] + l[i]", "len(l) + len([])", "push(l, 1)[0]", "set(push([], 1), 0, i)", "g(1, true, [])", "v()[0]", "lib.sum(1, i)", "lib.yes() && b", "q.all(l)[0]", "g(g(1, b, l), lib.yes(), q.all(v()))", "l", "b", "i", "(1 < 2) != b", "[][0]",
	} {
		expr(t, api.OK, s)
	}
	for _, s := range []string{
		"^b + 1", "1 + ^b", "1 + ^l", "^l * l", "i - ^b", "1 / ^true", "1 % ^[]", "^1 && b", "b && ^1", "b || ^l", "^l || b", "!^1", "!^l", "-^b", "-^[1]", "^b < true", "1 < ^true", "1 >= ^l", "^l > 1", "^b <= 1",
		"^l == l", "^l != 1", "1 == ^b", "b == ^1", "1 == ^l", "b != ^l", "^[] == []", "[^b]", "[1, ^l]", "[1, ^true, l]", "^i[0]", "^b[0]", "l[^b]", "l[^l]", "^i[b]", "len(^i)", "len(^b)", "push(^i, 1)", "push(l, ^b)", "push(^b, b)", "set(^i, 0, 0)", "set(l, ^b, 0)", "set(l, 0, ^l)", "set(l, ^b, b)", "set(^b, b, b)",
		"g(^b, b, l)", "g(1, ^1, l)", "g(1, b, ^1)", "g(^l, 1, 1)", "lib.sum(1, ^b)", "q.all(^lib.sum(1, 2))", "^lib.yes() + 1", "1 - ^v()", "^v() + 1", "l[^v()]", "(^1 < 2) + 1",
	} {
		expr(t, api.ErrType, s)
	}
	for _, s := range []string{"^y", "1 + ^y", "b + ^y", "[b, ^y]", "^y[z]", "l[^y]", "g(^y, z, b)", "^h()", "^h(y)", "^lib.none()", "^x.sum(1, 2)", "^sum(1, 2)", "^lib.f(1, b, l)", "^m.g(1, b, l)", "^q.late()", "set(l, b, ^y)", "b == ^y", "^x", "g(1, b, ^l2)", "i == b + ^y", "!^y", "len(^g)", "^i(1)", "lib.sum(^y, b)"} {
		expr(t, api.ErrName, s)
	}
	for _, s := range []string{"^g()", "^g(1, b)", "^g(1, b, l, 1)", "^v(1)", "^lib.yes(1)", "^lib.sum(1)", "^g(y)", "^q.all()", "^g(b, y)", "1 + ^v(b)", "g(^g(), b, l)"} {
		expr(t, api.ErrCount, s)
	}
	// In calls, the type of an argument comes before the errors of the next one; elsewhere the errors come first.
	expr(t, api.ErrType, "g(^b, y, l)")
	expr(t, api.ErrName, "set(b, ^y, l)")
	expr(t, api.ErrCount, "[b, ^g()]")
	expr(t, api.ErrType, "[^b, l]")
	expr(t, api.ErrType, "l == (1 + ^b)")
}

func TestP12_1_Functions(t *testing.T) {
	for _, s := range []string{
		"func f() int { let x = 1; x = 2; return x; }", "func f() bool { return 1 < 2; }", "func f() list { return []; }", "func f(a int) int { a = 3; return a; }", "func f(f int) int { return f; }",
		"func f() int { if true { let x = 1; } let x = true; return 1; }", "func f() int { if true { let x = 1; } else { let x = []; } while true { let x = true; } return 1; }", "func f() int { f(); g(); return 1; } func g() list { f(); return []; }",
		"func f() int { while false { } return 1; }", "func f() int { if true { return 1; } else { return 2; } }", "func f() int { if true { return 1; } else if false { return 2; } else { return 3; } }", "func f() int { return 1; return 2; }", "func f() int { let x = 1; if true { x = 2; let y = x; x = y; } return x; }", "func f() int { if true { if false { return 1; } else { return 2; } } else { return 3; } }",
	} {
		check(t, api.OK, s)
	}
	for want, l := range map[api.Errno][]string{
		api.ErrTwice:  {"^func f(a int, b bool, a int) int { return y; }", " ^func f(a int, a int) int { }", "func f(a int) int { ^let a = 1; return 1; }", "func f() int { let x = 1; ^let x = true; return y; }", "func f() int { let x = 1; if true { ^let x = 2; } return 1; }", "func f(a int) int { while true { ^let a = []; } return 1; }"},
		api.ErrName:   {"func f() int { let x = ^x; return 1; }", "func f() int { ^x = 1; return 1; }", "func f() int { x = ^y; return 1; }", "func f() int { if true { let x = 1; } return ^x; }", "func f() int { if true { let x = 1; } else { ^x = 1; } return 1; }", "func f() int { while true { let x = 1; } ^x = 1; return 1; }", "func f(a int) int { return 1; } func g() int { return ^a; }", "func f() int { ^f = 1; return 1; }", "func f() int { return ^f; }", "func f() int { ^g(); return 1; }", "func f() int { ^lib.yes(); return 1; }", "func f() int { ^x = 1 < 2; return 1; }", "func f() int { let x = 1; let x = ^y; return 1; }"},
		api.ErrType:   {"func f() int { let x = 1; x = ^true; return 1; }", "func f(l list) int { l = ^1; return 1; }", "func f() int { if ^1 { return y; } return 1; }", "func f() int { while ^[] { y = 1; } return 1; }", "func f() int { return ^true; }", "func f() bool { return ^1; }", "func f() list { return ^1; }", "func f(a int) int { let b = a < 1; return ^b; }", "func f() int { if true { return ^[]; } return 1; }", "func f() int { if true { } else { return ^[]; } return 1; }", "func f() int { return ^f() == 1; }"},
		api.ErrReturn: {"^func f() int { }", "^func f() int { f(); }", " ^func f() int { if true { return 1; } }", "^func f() int { if true { return 1; } else { } }", "^func f() int { if true { } else { return 1; } }", "^func f() int { while true { return 1; } }", "^func f() int { return 1; let x = 1; }", "^func f() int { if true { return 1; } else if false { return 2; } }", "func f() int { return 1; } ^func g() int { }", "^func f() int { if true { if true { return 1; } } else { return 2; } }"},
		api.ErrImport: {`^import "z"; func f() int { return y; }`, `import "q"; ^import "lib"; func f() int { }`, `import "x/lib"; ^import "x";`, `^import "m";`},
	} {
		for _, s := range l {
			check(t, want, s)
		}
	}
}

func TestP12_1_Locals(t *testing.T) {
	lets := func(n int) string {
		s := ""
		for i := range n {
			s += fmt.Sprintf("let v%d = 1; ", i)
		}
		return s
	}
	check(t, api.OK, "func f() int { "+lets(64)+"return v63; }")
	check(t, api.ErrLong, "func f() int { "+lets(64)+"^let x = 1; return 1; }")
	check(t, api.ErrTwice, "func f() int { "+lets(64)+"^let v3 = 1; return 1; }")
	check(t, api.ErrName, "func f() int { "+lets(64)+"let x = ^y; return 1; }")
	check(t, api.OK, "func f(a int, b int) int { "+lets(62)+"return 1; }")
	check(t, api.ErrLong, "func f(a int, b int) int { "+lets(62)+"^let x = 1; return 1; }")
	check(t, api.ErrLong, "func f() int { if true { "+lets(40)+"} while false { "+lets(24)+"^let x = 1; } return 1; }")
	check(t, api.OK, "func f() int { "+lets(64)+"return 1; } func g() int { "+lets(64)+"return 1; }")
}

func TestP12_1_Files(t *testing.T) {
	for i, x := range []struct {
		sources []string
		want    api.Issue
	}{
		{[]string{"func f() int { return g(); }", "func g() int { return 1; }"}, api.Issue{}},
		{[]string{"func f() int { return 1; }", "func g() bool { return f(); }"}, api.Issue{Err: api.ErrType, Path: "m/b.m", At: 23}},
		{[]string{"func f() int { return true; }", `import "z";`}, api.Issue{Err: api.ErrType, Path: "m/a.m", At: 22}},
		{[]string{`import "q"; func f() list { return q.all([]); }`, "func g() list { return q.all([]); }"}, api.Issue{Err: api.ErrName, Path: "m/b.m", At: 23}},
		{[]string{`import "q"; func f() list { return q.all([]); }`, `import "x/lib"; func g() int { return lib.sum(1, 2); }`}, api.Issue{}},
	} {
		if _, issue := checker.Check(load(t, x.sources...), faces); issue != x.want {
			t.Errorf("%d: %v, want %v", i, issue, x.want)
		}
	}
	self := []api.Interface{{Dir: "m", Funcs: []api.Signature{{Name: "other", Result: api.Int}}}}
	if _, issue := checker.Check(load(t, `import "m"; func f() int { return m.other(); }`), self); issue != (api.Issue{}) {
		t.Errorf("an import of the package itself: %v", issue)
	}
}

// Packages that are no result of Load must not do any harm.
func TestP12_1_OtherPackages(t *testing.T) {
	var exprs []api.Expr
	for kind := -1; kind < 13; kind++ {
		for n := range 4 {
			exprs = append(exprs, api.Expr{Kind: kind, Op: kind + n, Args: make([]api.Expr, n)})
		}
	}
	for _, e := range exprs {
		for kind := -1; kind < 8; kind++ {
			for _, l := range [][]api.Expr{nil, {e}, {e, e}} {
				f := api.Func{Params: make([]api.Param, 99), Body: []api.Stmt{{Kind: kind, Expr: l}}}
				for i := range f.Params {
					f.Params[i].Name = fmt.Sprint("p", i)
				}
				checker.Check(api.Package{Files: []api.File{{Imports: make([]api.Import, 2), Funcs: []api.Func{f, f}}}}, nil)
				checker.Check(api.Package{Files: []api.File{{Funcs: []api.Func{f, f}}}}, faces)
			}
		}
	}
}

func TestP12_2_Find(t *testing.T) {
	f := api.Interface{Funcs: []api.Signature{{Name: "b", Result: 1}, {Name: "a", Params: []int{3, 1}, Result: 2}, {Name: "a", Result: 3}, {Name: "", Result: 2}}}
	if s, ok := checker.Find(f, "a"); !ok || !reflect.DeepEqual(s, api.Signature{Name: "a", Params: []int{3, 1}, Result: 2}) {
		t.Errorf("Find: %v, %t", s, ok)
	}
	s, _ := checker.Find(f, "a")
	s.Params[0] = 9
	if f.Funcs[1].Params[0] != 3 {
		t.Error("Find shares memory")
	}
	if s, ok := checker.Find(f, ""); !ok || s.Result != 2 {
		t.Errorf("Find of an empty name: %v, %t", s, ok)
	}
	if s, ok := checker.Find(f, "c"); ok || !reflect.DeepEqual(s, api.Signature{}) {
		t.Errorf("Find of nothing: %v, %t", s, ok)
	}
	if _, ok := checker.Find(api.Interface{}, ""); ok {
		t.Error("Find in nothing")
	}
}

func TestP12_3_OtherFaces(t *testing.T) {
	p := load(t, `import "q"; func f() list { return q.all([]); }`)
	a, ia := checker.Check(p, faces[1:2])
	b, ib := checker.Check(p, append([]api.Interface{{Dir: "other"}, {Dir: "x/q"}}, faces...))
	if !reflect.DeepEqual(a, b) || ia != ib || ia != (api.Issue{}) {
		t.Errorf("%v, %v; %v, %v", a, ia, b, ib)
	}
	if _, issue := checker.Check(p, []api.Interface{faces[2], faces[1]}); issue.Err != api.ErrName {
		t.Errorf("the first interface of a directory counts: %v", issue)
	}
}
