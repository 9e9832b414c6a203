package compiler_test

import (
	"fmt"
	"reflect"
	"strings"
	"testing"

	"classroom/api"
	"classroom/bytecode"
	"classroom/checker"
	"classroom/compiler"
	"classroom/loader"
)

// load loads the package in a directory from the sources a.m, b.m and so on.
func load(t *testing.T, dir string, sources ...string) api.Package {
	t.Helper()
	var tree api.Tree
	for i, s := range sources {
		tree.Files = append(tree.Files, api.Entry{Path: fmt.Sprintf("%s/%c.m", dir, 'a'+i), Content: s})
	}
	p, issue := loader.Load(tree, dir)
	if issue != (api.Issue{}) {
		t.Fatalf("%q: %v", sources, issue)
	}
	return p
}

func TestP15_1_Size(t *testing.T) {
	for s, want := range map[string]int{
		"": 0, "func f() int { }": 0, "func f() int { return 1; }": 2, "func f() int { return 1 + 2 * 3; }": 6, "func f(a int) int { let x = f(a, [1, 2][0]); x = -a; return x; }": 8 + 3 + 2,
		"func f() int { if true { return 1; } else if false { f(); } else { while a { } } }": 2 + 2 + 2 + 2 + 2, "func f() int { return len(push(set([], 1, 2), 3)); } func g() int { return 1; }": 8 + 2,
	} {
		if n := compiler.Size(load(t, "m", s)); n != want {
			t.Errorf("Size(%q): %d, want %d", s, n, want)
		}
	}
	if n := compiler.Size(load(t, "m", "func f() int { return 1; }", "func g() int { return -1; }")); n != 5 {
		t.Errorf("Size of two files: %d", n)
	}
	// All parts count, also of packages that are no results of Load.
	deep := api.Stmt{Expr: make([]api.Expr, 3), Body: make([]api.Stmt, 2), Else: make([]api.Stmt, 4)}
	if n := compiler.Size(api.Package{Files: []api.File{{Funcs: []api.Func{{Body: []api.Stmt{deep}}}}}}); n != 10 {
		t.Errorf("Size of any package: %d", n)
	}
	if compiler.Size(api.Package{}) != 0 {
		t.Error("Size of nothing")
	}
}

func TestP15_1_Compile(t *testing.T) {
	faces := []api.Interface{{Dir: "x/lib", Funcs: []api.Signature{{Name: "g", Params: []int{api.Int}, Result: api.List}}}}
	p := load(t, "m", `import "x/lib"; func z(a int, b bool, c list) list { let n = lib.g(a); return n; }`, "func a() int { return b(); } func b() int { return a(); }")
	face, _ := checker.Check(p, faces)
	o, issue := compiler.Compile(p, faces)
	if issue != (api.Issue{}) || !reflect.DeepEqual(o.Face, face) || len(o.Funcs) != 3 {
		t.Fatalf("%v, %v", o, issue)
	}
	for i, c := range o.Funcs {
		s := face.Funcs[i]
		if c.Name != "m."+s.Name || c.Result != s.Result || !reflect.DeepEqual(append([]int{}, c.Params...), append([]int{}, s.Params...)) {
			t.Errorf("function %d: %v, %v", i, c, s)
		}
	}
	called := map[string]string{}
	for _, c := range o.Funcs {
		for _, in := range c.Ins {
			if in.Op == api.InCall {
				called[c.Name] += o.Names[in.N]
			}
		}
	}
	if !reflect.DeepEqual(called, map[string]string{"m.z": "x/lib.g", "m.a": "m.b", "m.b": "m.a"}) {
		t.Errorf("calls: %v", called)
	}
	for range 20 {
		if again, _ := compiler.Compile(p, faces); !reflect.DeepEqual(o, again) {
			t.Fatal("the same arguments lead to another object")
		}
	}
	o.Face.Funcs[2].Params[0] = 99
	if o.Funcs[2].Params[0] == 99 || o.Funcs[2].Locals[0] == 99 {
		t.Error("parts of the object share memory")
	}
	if o, issue := compiler.Compile(load(t, "", "func f() int { return 1; }"), nil); issue != (api.Issue{}) || o.Funcs[0].Name != ".f" {
		t.Errorf("the package of the root: %v, %v", o, issue)
	}
}

func TestP15_1_Issue(t *testing.T) {
	for _, s := range []string{"func f() int { return true; }", `import "q";`, "func f() int { }", "func f() int { return g(); }"} {
		p := load(t, "m", s)
		_, want := checker.Check(p, nil)
		o, issue := compiler.Compile(p, nil)
		if issue != want || issue == (api.Issue{}) || !reflect.DeepEqual(o, api.Object{}) {
			t.Errorf("%q: %v, want %v", s, issue, want)
		}
	}
}

// Packages that are no result of Load must not do any harm.
func TestP15_1_OtherPackages(t *testing.T) {
	for kind := -1; kind < 13; kind++ {
		for n := range 4 {
			for op := -1; op < 17; op++ {
				e := api.Expr{Kind: kind, Op: op, Name: "f", Args: make([]api.Expr, n)}
				for i := range e.Args {
					e.Args[i] = api.Expr{Kind: []int{api.ExInt, api.ExBool, api.ExList}[(i+op+3)%3]}
				}
				for s := -1; s < 8; s++ {
					body := []api.Stmt{{Kind: s, Expr: []api.Expr{e}}, {Kind: api.StReturn, Expr: []api.Expr{{Kind: api.ExInt}}}}
					f := api.Func{Name: "f", Result: api.Int, Body: body}
					compiler.Compile(api.Package{Files: []api.File{{Funcs: []api.Func{f, f}}}}, nil)
				}
			}
		}
	}
}

func object(names []string, l ...api.Code) api.Object { return api.Object{Names: names, Funcs: l} }

func code(name string, calls ...int) api.Code {
	c := api.Code{Name: name, Params: []int{1}, Result: 2, Locals: []int{1, 3}}
	for _, n := range calls {
		c.Ins = append(c.Ins, api.Instr{Op: api.InConst, N: 77}, api.Instr{Op: api.InCall, N: n})
	}
	return c
}

func TestP15_2_Link(t *testing.T) {
	l := []api.Object{object([]string{"b.g", "a.f"}, code("a.f", 0, 1), code("a.h", 0)), object(nil), object([]string{"a.h", "x", "b.g"}, code("b.g", 0, 2, 0))}
	want := api.Program{Funcs: []api.Code{code("a.f", 2, 0), code("a.h", 2), code("b.g", 1, 2, 1)}}
	p, e := compiler.Link(l)
	if e != api.OK || !reflect.DeepEqual(p, want) {
		t.Errorf("%v, %d", p, e)
	}
	p.Funcs[0].Ins[0].N, p.Funcs[0].Params[0], p.Funcs[0].Locals[0] = 5, 5, 5
	if !reflect.DeepEqual(l[0].Funcs[0], code("a.f", 0, 1)) {
		t.Error("Link keeps or changes its argument")
	}
	if p, e := compiler.Link(nil); e != api.OK || len(p.Funcs) != 0 {
		t.Errorf("no objects: %v, %d", p, e)
	}
	for i, x := range []struct {
		l    []api.Object
		want api.Errno
	}{
		{[]api.Object{object(nil, code("a"), code("a"))}, api.ErrTwice}, {[]api.Object{object(nil, code("a", 5)), object(nil, code("b"), code("a"))}, api.ErrTwice},
		{[]api.Object{object(nil, code("a", 0))}, api.ErrCode}, {[]api.Object{object([]string{"a"}, code("a", 1))}, api.ErrCode}, {[]api.Object{object([]string{"a"}, code("a", -1))}, api.ErrCode}, {[]api.Object{object([]string{"b"}, code("a", 0))}, api.ErrName},
		{[]api.Object{object([]string{"b"}, code("a", 0, 1))}, api.ErrName}, {[]api.Object{object([]string{"b"}, code("a", 1, 0))}, api.ErrCode}, {[]api.Object{object([]string{"b", "a"}, code("a", 1)), object(nil, code("c", 0)), object([]string{"x"}, code("d", 0))}, api.ErrCode}, {[]api.Object{object([]string{"b", "a"}, code("a", 1)), object([]string{"x"}, code("c", 0)), object(nil, code("d", 0))}, api.ErrName},
	} {
		if p, e := compiler.Link(x.l); e != x.want || len(p.Funcs) != 0 {
			t.Errorf("Link %d: %v, %d, want %d", i, p, e, x.want)
		}
	}
}

func TestP15_3_WellFormed(t *testing.T) {
	o, issue := compiler.Compile(load(t, "m", "func f(a bool) int { if a { return 1; } else { if a { return 2; } else { while a { return 3; } return 4; } } } func g() int { return 1; let x = 2; return x; "+strings.Repeat("g(); ", 3)+"return 5; }"), nil)
	p, e := compiler.Link([]api.Object{o})
	if issue != (api.Issue{}) || e != api.OK || bytecode.Check(p) != api.OK {
		t.Errorf("%v, %d, %d", issue, e, bytecode.Check(p))
	}
}
