package interp_test

import (
	"math"
	"reflect"
	"strings"
	"testing"

	"classroom/api"
	"classroom/checker"
	"classroom/interp"
	"classroom/loader"
)

// program loads packages, given as directories and sources in turn, and checks them with the interfaces of all.
func program(t *testing.T, l ...string) []api.Package {
	t.Helper()
	var packs []api.Package
	var faces []api.Interface
	for i := 0; i < len(l); i += 2 {
		p, issue := loader.Load(api.Tree{Files: []api.Entry{{Path: l[i] + "/a.m", Content: l[i+1]}}}, l[i])
		if issue != (api.Issue{}) {
			t.Fatalf("%q: %v", l[i+1], issue)
		}
		face := api.Interface{Dir: p.Dir}
		for _, f := range p.Files[0].Funcs {
			s := api.Signature{Name: f.Name, Result: f.Result}
			for _, a := range f.Params {
				s.Params = append(s.Params, a.Type)
			}
			face.Funcs = append(face.Funcs, s)
		}
		packs, faces = append(packs, p), append(faces, face)
	}
	for _, p := range packs {
		if _, issue := checker.Check(p, faces); issue != (api.Issue{}) {
			t.Fatalf("%v: %v", l, issue)
		}
	}
	return packs
}

var wide = api.Bounds{Fuel: 1000, Calls: 100, Heap: 1000}

func num(n int64) api.Value { return api.Value{Type: api.Int, Num: n} }

func truth(b bool) api.Value {
	if b {
		return api.Value{Type: api.Bool, Num: 1}
	}
	return api.Value{Type: api.Bool}
}

func list(l ...int64) api.Value { return api.Value{Type: api.List, List: l} }

// expect runs f of the package m.
func expect(t *testing.T, l []api.Package, args []api.Value, b api.Bounds, want api.Result) {
	t.Helper()
	got := interp.Run(l, "m", "f", args, b)
	if got.End != want.End || !interp.Same(got.Value, want.Value) || got.Fuel != want.Fuel || got.Heap != want.Heap {
		t.Errorf("%+v, want %+v", got, want)
	}
	if got.End != api.RunDone && !reflect.DeepEqual(got.Value, api.Value{}) {
		t.Errorf("the value of a fault is %v", got.Value)
	}
}

func done(v api.Value, fuel, heap int) api.Result {
	return api.Result{End: api.RunDone, Value: v, Fuel: fuel, Heap: heap}
}

// value runs a function that returns an expression of this type.
func value(t *testing.T, kind, e string, want api.Value) {
	t.Helper()
	got := interp.Run(program(t, "m", "func f() "+kind+" { return "+e+"; }"), "m", "f", nil, wide)
	if got.End != api.RunDone || !interp.Same(got.Value, want) {
		t.Errorf("%s: %+v, want %v", e, got, want)
	}
}

func TestP13_1_Operators(t *testing.T) {
	const least = "(0 - 9223372036854775807 - 1)"
	for e, want := range map[string]int64{
		"1 + 2": 3, "1 - 2": -1, "3 * 4": 12, "7 / 2": 3, "7 % 2": 1, "-7 / 2": -3, "-7 % 2": -1, "7 / -2": -3, "7 % -2": 1, "-7 / -2": 3, "-7 % -2": -1, "--3": 3, "1 - 2 - 3": -4, "100 / 10 / 5": 2, "2 + 3 * 4": 14,
		"9223372036854775807 + 1": math.MinInt64, least + " - 1": math.MaxInt64, "9223372036854775807 * 2": -2, "-" + least: math.MinInt64, least + " / -1": math.MinInt64, least + " % -1": 0, "0 / 5": 0, least + " / 1": math.MinInt64,
		"[5, 6, 7][1]": 6, "len([])": 0, "len([1, 2])": 2, "len(push([], 3))": 1, "push([1], 3)[1]": 3, "set([1, 2], 0, 9)[0]": 9, "set([1, 2], 0, 9)[1]": 2, "set([1, 2], 1, 9)[1]": 9,
	} {
		value(t, "int", e, num(want))
	}
	for e, want := range map[string]bool{
		"true": true, "false": false, "!true": false, "!false": true, "1 == 1": true, "1 == 2": false, "1 != 1": false, "1 != 2": true, "true == true": true, "true == false": false, "true != false": true, "false != false": false,
		"1 < 2": true, "2 < 1": false, "1 < 1": false, "1 <= 1": true, "2 <= 1": false, "2 > 1": true, "1 > 1": false, "1 >= 1": true, "0 >= 1": false, "-1 < 0": true, "true && true": true, "true && false": false, "false && true": false, "false || true": true, "true || false": true, "false || false": false,
		"false && 1 / 0 == 1": false, "true || 1 / 0 == 1": true,
	} {
		value(t, "bool", e, truth(want))
	}
	value(t, "list", "[]", list())
	value(t, "list", "[1, 1 + 1, -3]", list(1, 2, -3))
	value(t, "list", "push(push([], 1), 2)", list(1, 2))
	value(t, "list", "set([1, 2, 3], 2, 9)", list(1, 2, 9))
}

func TestP13_1_Fuel(t *testing.T) {
	p := program(t, "m", "func f(n int) int { while 0 < n { n = n - 1; } return n; }")
	expect(t, p, []api.Value{num(2)}, wide, done(num(0), 7, 0))
	expect(t, p, []api.Value{num(2)}, api.Bounds{Fuel: 7, Calls: 1}, done(num(0), 7, 0))
	for fuel := range 7 {
		expect(t, p, []api.Value{num(2)}, api.Bounds{Fuel: fuel, Calls: 1}, api.Result{End: api.RunFuel, Fuel: fuel})
	}
	for s, fuel := range map[string]int{
		"return 1;": 2, "let x = 1; x = 2; return 3;": 4, "if true { return 1; } return 2;": 3, "if false { return 1; } return 2;": 3, "if false { } else { g(); } return 2;": 6, "while false { } return 1;": 3, "return g() + g();": 6, "g(); return 1;": 5, "while true { return 1; } return 1;": 3, "if true { let x = 1; } let x = 2; return x;": 5,
		"let i = 0; while i < 3 { if i == 1 { g(); } i = i + 1; } return i;": 1 + 1 + 4 + 3 + 3 + 3 + 1,
	} {
		r := interp.Run(program(t, "m", "func g() int { return 1; } func f() int { "+s+" }"), "m", "f", nil, wide)
		if r.End != api.RunDone || r.Fuel != fuel {
			t.Errorf("%s: %+v, want %d", s, r, fuel)
		}
	}
}

func TestP13_1_Calls(t *testing.T) {
	p := program(t, "m", "func f(n int) int { if n == 0 { return 0; } return f(n - 1) + 1; }")
	expect(t, p, []api.Value{num(4)}, api.Bounds{Fuel: 99, Calls: 5}, done(num(4), 15, 0))
	expect(t, p, []api.Value{num(4)}, api.Bounds{Fuel: 99, Calls: 4}, api.Result{End: api.RunCalls, Fuel: 12})
	expect(t, p, []api.Value{num(0)}, api.Bounds{Fuel: 99, Calls: 0}, api.Result{End: api.RunCalls})
	// The depth is checked before the fuel of the call, and after its arguments.
	expect(t, p, []api.Value{num(0)}, api.Bounds{Fuel: 0, Calls: 0}, api.Result{End: api.RunCalls})
	expect(t, p, []api.Value{num(1)}, api.Bounds{Fuel: 3, Calls: 1}, api.Result{End: api.RunCalls, Fuel: 3})
	expect(t, p, []api.Value{num(1)}, api.Bounds{Fuel: 3, Calls: 2}, api.Result{End: api.RunFuel, Fuel: 3})
	q := program(t, "m", "func g(n int) int { return n; } func f() int { return g(1 / 0); }")
	expect(t, q, nil, api.Bounds{Fuel: 99, Calls: 1}, api.Result{End: api.RunZero, Fuel: 2})
	// Calls that have returned are not active.
	expect(t, program(t, "m", "func g(n int) int { return n; } func f() int { g(g(1)); g(2); return g(3); }"), nil, api.Bounds{Fuel: 99, Calls: 2}, done(num(3), 12, 0))
	expect(t, program(t, "m", "func g(n int) int { while true { if true { return n; } } return n; } func f() int { let i = 0; while i < 50 { i = i + g(1); } return i; }"), nil, api.Bounds{Fuel: 999, Calls: 2}, done(num(50), 1+1+51+50+4*50+1, 0))
}

func TestP13_1_Heap(t *testing.T) {
	p := program(t, "m", "func f(l list) list { return set(push(l, 7), 0, len([1])); }")
	expect(t, p, []api.Value{list(4, 5)}, wide, done(list(1, 5, 7), 2, 4+2+4))
	expect(t, p, []api.Value{list(4, 5)}, api.Bounds{Fuel: 9, Calls: 1, Heap: 10}, done(list(1, 5, 7), 2, 10))
	for heap, want := range map[int]int{9: 6, 6: 6, 5: 4, 4: 4, 3: 0, 0: 0} {
		expect(t, p, []api.Value{list(4, 5)}, api.Bounds{Fuel: 9, Calls: 1, Heap: heap}, api.Result{End: api.RunHeap, Fuel: 2, Heap: want})
	}
	expect(t, program(t, "m", "func f() list { return []; }"), nil, api.Bounds{Fuel: 9, Calls: 1}, api.Result{End: api.RunHeap, Fuel: 2})
	expect(t, program(t, "m", "func f() list { return []; }"), nil, api.Bounds{Fuel: 9, Calls: 1, Heap: 1}, done(list(), 2, 1))
	// Arguments, variables and results cost nothing.
	expect(t, program(t, "m", "func g(l list) list { let k = l; return k; } func f(l list) list { l = g(l); return l; }"), []api.Value{list(1, 2, 3)}, api.Bounds{Fuel: 99, Calls: 2}, done(list(1, 2, 3), 6, 0))
}

func TestP13_1_Faults(t *testing.T) {
	for e, want := range map[string]api.Result{
		"1 / 0": {End: api.RunZero}, "1 % 0": {End: api.RunZero}, "[1][1]": {End: api.RunIndex, Heap: 2}, "[1][-1]": {End: api.RunIndex, Heap: 2}, "[][0]": {End: api.RunIndex, Heap: 1}, "set([1], 1, 0)[0]": {End: api.RunIndex, Heap: 2}, "set([1], -1, 0)[0]": {End: api.RunIndex, Heap: 2}, "[1][9223372036854775807]": {End: api.RunIndex, Heap: 2},
		// From left to right, all arguments before the operation.
		"1 / 0 + [][0]": {End: api.RunZero}, "[][0] + 1 / 0": {End: api.RunIndex, Heap: 1}, "[1][2 / 0]": {End: api.RunZero, Heap: 2}, "[1 / 0][g([])]": {End: api.RunZero}, "set([1], 5, 1 / 0)[0]": {End: api.RunZero, Heap: 2}, "g([1]) + 1 / 0": {End: api.RunZero, Heap: 2}, "push([1 / 0], [][0])[0]": {End: api.RunZero},
	} {
		want.Fuel = 2
		if strings.HasPrefix(e, "g(") {
			want.Fuel = 4
		}
		expect(t, program(t, "m", "func g(l list) int { return 0; } func f() int { return "+e+"; }"), nil, wide, want)
	}
	// The index of set is checked before the heap.
	expect(t, program(t, "m", "func f(l list) list { return set(l, 3, 0); }"), []api.Value{list(1, 2, 3)}, api.Bounds{Fuel: 9, Calls: 1}, api.Result{End: api.RunIndex, Fuel: 2})
	expect(t, program(t, "m", "func f(l list) list { return set(l, 2, 0); }"), []api.Value{list(1, 2, 3)}, api.Bounds{Fuel: 9, Calls: 1}, api.Result{End: api.RunHeap, Fuel: 2})
	// The fuel of a statement is used before its expression.
	expect(t, program(t, "m", "func f() int { return 1 / 0; }"), nil, api.Bounds{Fuel: 1, Calls: 1}, api.Result{End: api.RunFuel, Fuel: 1})
	for _, s := range []string{"let x = 1 / 0; return 1;", "f(); return 1;", "if 1 / 0 == 1 { } return 1;", "while 1 / 0 == 1 { } return 1;"} {
		r := interp.Run(program(t, "m", "func f() int { "+s+" }"), "m", "f", nil, api.Bounds{Fuel: 2, Calls: 1})
		want := api.RunZero
		if s[0] == 'f' {
			want = api.RunCalls
		}
		if r.End != want || r.Fuel != 2 {
			t.Errorf("%s: %+v", s, r)
		}
	}
}

func TestP13_1_Values(t *testing.T) {
	// Neither assignments nor calls change the values of others.
	expect(t, program(t, "m", "func g(l list) int { l = set(l, 0, 9); l = push(l, 1); return len(l); } func f(l list) list { let k = l; let n = g(l); l = set(l, 1, n); k = push(k, k[0]); let j = push(k, 5); let i = push(k, 6); return push(push(k, j[3]), i[3]); }"), []api.Value{list(1, 2)}, wide, done(list(1, 2, 1, 5, 6), 12, 3+4+3+4+5+5+5+6))
	arg := list(1, 2, 3)
	r := interp.Run(program(t, "m", "func f(l list) list { return l; }"), "m", "f", []api.Value{arg}, wide)
	r.Value.List[0] = 99
	if arg.List[0] != 1 {
		t.Error("the result shares memory with an argument")
	}
	// Inner variables end with their block, and each iteration has new ones.
	expect(t, program(t, "m", "func f() int { let s = 0; while s < 10 { let x = s; if true { let y = x + 1; s = y; } else { let y = true; } let z = s; s = z + 1; } let x = s; return x; }"), nil, wide, done(num(10), 1+1+6+5*6+1+1, 0))
}

func TestP13_1_Packages(t *testing.T) {
	p := program(t, "m", `import "x/q"; import "y"; func f() int { return q.g() * 10 + y.g(); } func g() int { return 9; }`, "x/q", `func g() int { return h(); } func h() int { return 1; }`, "y", `import "m"; func g() int { return h() + m.g() - 9; } func h() int { return 2; }`)
	expect(t, p, nil, wide, done(num(12), 12, 0))
	q := program(t, "x/q", "func g() int { return 5; }")
	expect(t, append(p, q...), nil, wide, done(num(12), 12, 0))
	expect(t, append(q, p...), nil, wide, done(num(52), 10, 0))
}

func TestP13_1_None(t *testing.T) {
	p := program(t, "m", "func f(a int, b bool, l list) int { return a; }")
	good := []api.Value{num(5), truth(true), list(1)}
	expect(t, p, good, wide, done(num(5), 2, 0))
	none := api.Result{End: api.RunNone}
	for i, args := range [][]api.Value{nil, good[:2], append(good[:3:3], num(1)), {truth(true), truth(true), list()}, {num(1), num(1), list()}, {num(1), truth(true), num(1)}, {{}, truth(true), list()}, {num(1), {Type: api.Bool, Num: 2}, list()}, {num(1), truth(true), {Type: api.List, Num: 1}}, {{Type: api.Int, List: []int64{1}}, truth(true), list()}} {
		if r := interp.Run(p, "m", "f", args, wide); !reflect.DeepEqual(r, none) {
			t.Errorf("arguments %d: %+v", i, r)
		}
	}
	for _, x := range [][2]string{{"m", "g"}, {"", "f"}, {"m.f", ""}, {"m", ""}, {"M", "f"}} {
		if r := interp.Run(p, x[0], x[1], good, wide); !reflect.DeepEqual(r, none) {
			t.Errorf("%q: %+v", x, r)
		}
	}
	if r := interp.Run(nil, "m", "f", good, wide); !reflect.DeepEqual(r, none) {
		t.Errorf("no packages: %+v", r)
	}
	if r := interp.Run(p, "m", "f", nil, api.Bounds{}); !reflect.DeepEqual(r, none) {
		t.Errorf("RunNone comes before all faults: %+v", r)
	}
}

func TestP13_1_Bounds(t *testing.T) {
	p := program(t, "m", "func f(n int) int { while true { n = n + 1; } return n; }")
	expect(t, p, []api.Value{num(0)}, api.Bounds{Fuel: math.MaxInt, Calls: 1}, api.Result{End: api.RunFuel, Fuel: api.MaxFuel})
	expect(t, p, []api.Value{num(0)}, api.Bounds{Fuel: -5, Calls: 1}, api.Result{End: api.RunFuel})
	q := program(t, "m", "func f(n int) int { return f(n); }")
	expect(t, q, []api.Value{num(0)}, api.Bounds{Fuel: 9999, Calls: math.MaxInt}, api.Result{End: api.RunCalls, Fuel: 2 * api.MaxCalls})
	expect(t, q, []api.Value{num(0)}, api.Bounds{Fuel: 9999, Calls: -1}, api.Result{End: api.RunCalls})
	h := program(t, "m", "func f() list { let l = []; while true { l = push(l, 1); } return l; }")
	// The lists of 0 to n elements have (n + 1) * (n + 2) / 2 units.
	expect(t, h, nil, api.Bounds{Fuel: 99999, Calls: 1, Heap: math.MaxInt}, api.Result{End: api.RunHeap, Fuel: 2 + 2*361, Heap: 361 * 362 / 2})
	expect(t, h, nil, api.Bounds{Fuel: 99999, Calls: 1, Heap: -1}, api.Result{End: api.RunHeap, Fuel: 2})
}

// Lists of packages that are no programs must not do any harm.
func TestP13_1_NoProgram(t *testing.T) {
	for kind := -1; kind < 13; kind++ {
		for n := range 4 {
			for op := -1; op < 17; op++ {
				e := api.Expr{Kind: kind, Op: op, Name: "f", Args: make([]api.Expr, n)}
				for i := range e.Args {
					e.Args[i] = api.Expr{Kind: api.ExInt, Num: 1}
				}
				for s := -1; s < 8; s++ {
					f := api.Func{Name: "f", Body: []api.Stmt{{Kind: s, Expr: []api.Expr{e}}, {Kind: s}}}
					interp.Run([]api.Package{{Files: []api.File{{Funcs: []api.Func{f}}}}}, "", "f", nil, wide)
				}
			}
		}
	}
	// Calls of functions that do not exist, or with too few or too many arguments.
	one := []api.Expr{{Kind: api.ExInt, Num: 1}}
	for _, e := range []api.Expr{{Kind: api.ExCall, Name: "g"}, {Kind: api.ExCall, Name: "g", Args: append(one, one...)}, {Kind: api.ExCall, Name: "none"}, {Kind: api.ExCall, Pack: "x", Name: "g", Args: one}, {Kind: api.ExCall, Pack: "lib", Name: "g", Args: one}, {Kind: api.ExName, Name: "none"}, {Kind: api.ExIndex, Args: append(one, one...)}} {
		f := api.Func{Name: "f", Body: []api.Stmt{{Kind: api.StReturn, Expr: []api.Expr{e}}}}
		g := api.Func{Name: "g", Params: []api.Param{{Name: "a", Type: api.Int}}, Body: []api.Stmt{{Kind: api.StReturn, Expr: one}}}
		interp.Run([]api.Package{{Files: []api.File{{Imports: []api.Import{{Path: "x/lib"}}, Funcs: []api.Func{f, g}}}}}, "", "f", nil, wide)
	}
	deep := api.Expr{Kind: api.ExCall, Name: "f"}
	for range 1 << 15 {
		deep = api.Expr{Kind: api.ExUnary, Op: api.OpNeg, Args: []api.Expr{deep}}
	}
	f := api.Func{Name: "f", Body: []api.Stmt{{Kind: api.StReturn, Expr: []api.Expr{deep}}}}
	interp.Run([]api.Package{{Files: []api.File{{Funcs: []api.Func{f}}}}}, "", "f", nil, api.Bounds{Fuel: 9999, Calls: 256})
}

func TestP13_2_Valid(t *testing.T) {
	for i, x := range []struct {
		v    api.Value
		want bool
	}{
		{num(0), true}, {num(math.MinInt64), true}, {truth(true), true}, {truth(false), true}, {list(), true}, {list(1, 2), true}, {api.Value{Type: api.Int, List: []int64{}}, true},
		{api.Value{}, false}, {api.Value{Type: 4}, false}, {api.Value{Type: -1}, false}, {api.Value{Type: api.Bool, Num: 2}, false}, {api.Value{Type: api.Bool, Num: -1}, false}, {api.Value{Type: api.List, Num: 1}, false}, {api.Value{Type: api.Int, List: []int64{0}}, false}, {api.Value{Type: api.Bool, List: []int64{0}}, false},
	} {
		if interp.Valid(x.v) != x.want {
			t.Errorf("Valid %d is not %t", i, x.want)
		}
	}
}

func TestP13_2_Same(t *testing.T) {
	l := []api.Value{num(0), num(1), truth(false), truth(true), list(), list(1), list(1, 2), list(2, 1), {}, {Type: api.List, Num: 1}}
	for i, a := range l {
		for k, b := range l {
			if interp.Same(a, b) != (i == k) {
				t.Errorf("Same(%v, %v)", a, b)
			}
		}
	}
	if !interp.Same(api.Value{Type: api.List}, api.Value{Type: api.List, List: []int64{}}) {
		t.Error("nil and empty lists are the same")
	}
}

func TestP13_3_MoreBounds(t *testing.T) {
	for _, s := range []string{"return f(n - 1);", "return 7;", "return 1 / (n - n);", "return [n][n];", "return push([], n)[0] + len(set([1, 2], 1, n));"} {
		p := program(t, "m", "func f(n int) int { if n == 0 { return 0; } let l = push([], 1); "+s+" }")
		top := interp.Run(p, "m", "f", []api.Value{num(3)}, wide)
		for fuel := range 16 {
			for calls := range 6 {
				for heap := range 14 {
					r := interp.Run(p, "m", "f", []api.Value{num(3)}, api.Bounds{Fuel: fuel, Calls: calls, Heap: heap})
					if r.Fuel > fuel || r.Heap > heap {
						t.Fatalf("%+v uses more than %d, %d", r, fuel, heap)
					}
					if (r.End == api.RunDone || r.End == api.RunZero || r.End == api.RunIndex) && !reflect.DeepEqual(r, top) {
						t.Fatalf("%+v, with more %+v", r, top)
					}
				}
			}
		}
	}
}
