package compiler_test

import (
	"fmt"
	"math/rand"
	"reflect"
	"strings"
	"testing"

	"classroom/api"
	"classroom/bytecode"
	"classroom/checker"
	"classroom/compiler"
	"classroom/interp"
	"classroom/vm"
)

// build compiles and links packages, given as directories and sources in turn, that may import each other.
func build(t *testing.T, l ...string) ([]api.Package, api.Program) {
	t.Helper()
	var packs []api.Package
	var faces []api.Interface
	for i := 0; i < len(l); i += 2 {
		p := load(t, l[i], l[i+1])
		face := api.Interface{Dir: p.Dir}
		for _, f := range p.Files[0].Funcs {
			s := api.Signature{Name: f.Name, Result: f.Result}
			for _, a := range f.Params {
				s.Params = append(s.Params, a.Type)
			}
			face.Funcs = append(face.Funcs, s)
		}
		packs, faces = append(packs, p), append(faces, face)
	}
	var objects []api.Object
	for i, p := range packs {
		if _, issue := checker.Check(p, faces); issue != (api.Issue{}) {
			t.Fatalf("%s: %v", l[2*i+1], issue)
		}
		o, issue := compiler.Compile(p, faces)
		if issue != (api.Issue{}) {
			t.Fatalf("%s: %v", l[2*i+1], issue)
		}
		objects = append(objects, o)
	}
	p, e := compiler.Link(objects)
	if e != api.OK || bytecode.Check(p) != api.OK {
		t.Fatalf("%v: %d, %d", l, e, bytecode.Check(p))
	}
	return packs, p
}

// agree runs a function in both ways.
func agree(t *testing.T, packs []api.Package, p api.Program, dir, name string, args []api.Value, b api.Bounds) api.Result {
	t.Helper()
	want := interp.Run(packs, dir, name, args, b)
	got := vm.Run(p, dir+"."+name, args, b)
	if got.End != want.End || !interp.Same(got.Value, want.Value) || got.Fuel != want.Fuel || got.Heap != want.Heap {
		t.Fatalf("%s.%s with %v, %v: the machine has %+v, the interpreter %+v; %v", dir, name, args, b, got, want, packs)
	}
	n := 0
	for _, c := range p.Funcs {
		n += len(c.Ins)
	}
	if steps := vm.Steps(p, dir+"."+name, args, b); steps > (got.Fuel+1)*n {
		t.Fatalf("%s.%s: %d steps for %d units of fuel", dir, name, steps, got.Fuel)
	}
	return got
}

func num(n int64) api.Value { return api.Value{Type: api.Int, Num: n} }

func TestP15_3_Agree(t *testing.T) {
	for _, s := range []string{
		"func f(n int) int { while 0 < n { n = n - 1; } return n; }",
		"func f(n int) int { if n < 2 { return n; } return f(n - 1) + f(n - 2); }",
		"func f(n int) int { let i = 0; let s = 0; while i < n { let sq = i * i; if sq % 2 == 0 { let x = sq; s = s + x; } else if sq % 3 == 0 { let x = [sq]; s = s - x[0]; } else { let x = true; s = s * 2; } i = i + 1; } return s; }",
		"func f(n int) int { if n == 0 { return 1; } else { if n == 1 { return 2; } else { return 3; } } }",
		"func f(n int) int { while true { if n == 3 { return n; } n = n + 1; } return 0; }",
		"func f(n int) int { let b = n > 0 && 10 / n > 2 || n < 0 && !(n == -1); if b { return 1; } return 0; }",
		"func f(n int) int { let l = [1, 2, n]; let k = l; l = set(l, n, 7); l = push(l, n); return l[n] * 100 + k[n] + len(l); }",
		"func f(n int) int { g(n); return g(g(n)) - g(n); } func g(n int) int { return n / (n - 2); }",
		"func f(n int) int { return 1; return f(n); let x = 1; while true { x = 2; } return x; }",
		"func f(n int) int { return -n * -9223372036854775807 / -1 % 5 - (n - 9223372036854775807 - 1) / -1; }",
		"func f(n int) int { if h(n) || h(n - 1) && h(n + 1) { return 1; } return 2; } func h(n int) bool { return [5, 6][n] == 6; }",
		"func f(n int) int { let l = mk(n); while len(l) < 5 { l = push(l, len(l)); } return l[4]; } func mk(n int) list { if n == 0 { return []; } return push(mk(n - 1), n); }",
	} {
		packs, p := build(t, "m", s)
		for n := int64(-2); n < 6; n++ {
			for _, fuel := range []int{0, 1, 2, 3, 4, 5, 7, 10, 20, 50, 200} {
				agree(t, packs, p, "m", "f", []api.Value{num(n)}, api.Bounds{Fuel: fuel, Calls: 20, Heap: 50})
			}
			for bound := range 9 {
				agree(t, packs, p, "m", "f", []api.Value{num(n)}, api.Bounds{Fuel: 500, Calls: bound, Heap: 50})
				agree(t, packs, p, "m", "f", []api.Value{num(n)}, api.Bounds{Fuel: 500, Calls: 9, Heap: bound * 3})
			}
		}
		agree(t, packs, p, "m", "f", nil, api.Bounds{Fuel: 9, Calls: 9})
		agree(t, packs, p, "m", "none", nil, api.Bounds{Fuel: 9, Calls: 9})
	}
	// Packages may import each other, and themselves.
	packs, p := build(t, "a", `import "b/c"; import "a"; func f(n int) int { if n == 0 { return 0; } return c.g(n - 1) + a.h(); } func h() int { return 1; }`, "b/c", `import "a"; func g(n int) int { return a.f(n) * 2; } func h() int { return 7; }`)
	for n := range int64(5) {
		r := agree(t, packs, p, "a", "f", []api.Value{num(n)}, api.Bounds{Fuel: 500, Calls: 50})
		if r.End != api.RunDone || r.Value.Num != 1<<n-1 {
			t.Errorf("f(%d): %+v", n, r)
		}
	}
}

// generator writes random programs that the checker accepts.
type generator struct {
	*rand.Rand
	b       strings.Builder
	names   []string // the visible variables
	kinds   []string // and their types
	locals  int
	pack    int // the number of the package, which can call those before it
	results map[string][]string
}

var kinds = []string{"int", "bool", "list"}

func (g *generator) expr(kind string, depth int) string {
	var l []string
	for i, k := range g.kinds {
		if k == kind {
			l = append(l, g.names[i])
		}
	}
	if len(l) > 0 && g.Intn(2) == 0 {
		return l[g.Intn(len(l))]
	}
	if depth > 0 && g.Intn(8) == 0 && len(g.results[kind]) > 0 {
		return g.call(g.results[kind][g.Intn(len(g.results[kind]))], depth)
	}
	i := func() string { return g.expr("int", depth-1) }
	b := func() string { return g.expr("bool", depth-1) }
	s := func() string { return g.expr("list", depth-1) }
	if depth <= 0 {
		switch kind {
		case "int":
			return []string{"0", "1", "2", "3", "9223372036854775807"}[g.Intn(5)]
		case "bool":
			return []string{"true", "false"}[g.Intn(2)]
		}
		return []string{"[]", "[1]", "[2, 3]"}[g.Intn(3)]
	}
	switch kind {
	case "int":
		switch g.Intn(4) {
		case 0:
			return "-(" + i() + ")"
		case 1:
			return "(" + s() + ")[" + i() + "]"
		case 2:
			return "len(" + s() + ")"
		}
		return "(" + i() + " " + []string{"+", "-", "*", "/", "%"}[g.Intn(5)] + " " + i() + ")"
	case "bool":
		switch g.Intn(4) {
		case 0:
			return "!(" + b() + ")"
		case 1:
			return "(" + i() + []string{" < ", " <= ", " > ", " >= ", " == ", " != "}[g.Intn(6)] + i() + ")"
		}
		return "(" + b() + []string{" && ", " || ", " == ", " != "}[g.Intn(4)] + b() + ")"
	}
	switch g.Intn(3) {
	case 0:
		return "[" + i() + ", " + i() + "]"
	case 1:
		return "push(" + s() + ", " + i() + ")"
	}
	return "set(" + s() + ", " + i() + ", " + i() + ")"
}

// call calls a function, given as its name and the types of its parameters.
func (g *generator) call(f string, depth int) string {
	l := strings.Fields(f)
	var args []string
	for _, k := range l[1:] {
		args = append(args, g.expr(k, depth-2))
	}
	return l[0] + "(" + strings.Join(args, ", ") + ")"
}

func (g *generator) block(depth int) {
	outer := len(g.names)
	g.b.WriteString("{\n")
	for range g.Intn(4) {
		g.stmt(depth)
	}
	g.b.WriteString("}")
	g.names, g.kinds = g.names[:outer:outer], g.kinds[:outer:outer]
}

func (g *generator) stmt(depth int) {
	k := kinds[g.Intn(3)]
	switch n := g.Intn(8); {
	case n < 2 && g.locals < 40:
		g.locals++
		x := fmt.Sprint("v", g.locals)
		fmt.Fprintf(&g.b, "let %s = %s;\n", x, g.expr(k, 2))
		g.names, g.kinds = append(g.names, x), append(g.kinds, k)
	case n < 5 && len(g.names) > 0:
		i := g.Intn(len(g.names))
		fmt.Fprintf(&g.b, "%s = %s;\n", g.names[i], g.expr(g.kinds[i], 2))
	case n == 5 && depth > 0:
		fmt.Fprintf(&g.b, "while %s ", g.expr("bool", 2))
		g.block(depth - 1)
	case n == 6 && depth > 0:
		fmt.Fprintf(&g.b, "if %s ", g.expr("bool", 1))
		g.block(depth - 1)
		if g.Intn(2) == 0 {
			g.b.WriteString(" else ")
			g.block(depth - 1)
		}
	case n == 7 && len(g.results[k]) > 0:
		g.b.WriteString(g.call(g.results[k][g.Intn(len(g.results[k]))], 2) + ";\n")
	}
}

// function writes a function and returns its name and the types of its parameters and of its result.
func (g *generator) function(name string, params []string, result string) {
	g.names, g.kinds, g.locals = nil, nil, 0
	g.b.WriteString("func " + name + "(")
	for i, k := range params {
		if i > 0 {
			g.b.WriteString(", ")
		}
		fmt.Fprintf(&g.b, "p%d %s", i, k)
		g.names, g.kinds = append(g.names, fmt.Sprint("p", i)), append(g.kinds, k)
	}
	g.b.WriteString(") " + result + " {\n")
	for range 1 + g.Intn(4) {
		g.stmt(2)
	}
	fmt.Fprintf(&g.b, "return %s;\n}\n", g.expr(result, 2))
}

func TestP15_3_Random(t *testing.T) {
	r := rand.New(rand.NewSource(15))
	ends := map[int]int{}
	for range 1500 {
		g := &generator{Rand: r, results: map[string][]string{}}
		var sources []string
		// All functions of the second package are known in advance, so that they can call each other.
		type function struct {
			name, result string
			params       []string
		}
		var l [2][]function
		for pack := range 2 {
			for i := range 3 {
				f := function{name: fmt.Sprint("f", i), result: kinds[r.Intn(3)]}
				for range r.Intn(3) {
					f.params = append(f.params, kinds[r.Intn(3)])
				}
				l[pack] = append(l[pack], f)
			}
		}
		for pack, dir := range []string{"q/lib", "m"} {
			g.b.Reset()
			g.results = map[string][]string{}
			if pack == 1 {
				g.b.WriteString("import \"q/lib\";\n")
				for _, f := range l[0] {
					g.results[f.result] = append(g.results[f.result], "lib."+f.name+" "+strings.Join(f.params, " "))
				}
			}
			for _, f := range l[pack] {
				g.results[f.result] = append(g.results[f.result], f.name+" "+strings.Join(f.params, " "))
			}
			for _, f := range l[pack] {
				g.function(f.name, f.params, f.result)
			}
			sources = append(sources, dir, g.b.String())
		}
		if len(sources[1]) > api.MaxContent || len(sources[3]) > api.MaxContent {
			continue
		}
		packs, p := build(t, sources...)
		for _, f := range l[1] {
			for range 4 {
				var args []api.Value
				for _, k := range f.params {
					args = append(args, map[string]api.Value{"int": num(int64(r.Intn(5) - 1)), "bool": {Type: api.Bool, Num: int64(r.Intn(2))}, "list": {Type: api.List, List: []int64{3, 4, 5}[:r.Intn(4)]}}[k])
				}
				ends[agree(t, packs, p, "m", f.name, args, api.Bounds{Fuel: r.Intn(300), Calls: r.Intn(12), Heap: r.Intn(150)}).End]++
			}
		}
	}
	for end := range 6 {
		if ends[end] < 20 {
			t.Errorf("only %d runs end with %d: %v", ends[end], end, ends)
		}
	}
}

// Objects that were linked in another order are the same programs but for the numbers.
func TestP15_3_Order(t *testing.T) {
	a, b := load(t, "a", "func f() int { return 1; }"), load(t, "b", `import "a"; func g() int { return a.f() + 1; }`)
	oa, _ := compiler.Compile(a, nil)
	ob, _ := compiler.Compile(b, []api.Interface{oa.Face})
	for _, l := range [][]api.Object{{oa, ob}, {ob, oa}} {
		p, e := compiler.Link(l)
		r := vm.Run(p, "b.g", nil, api.Bounds{Fuel: 9, Calls: 9})
		if e != api.OK || !reflect.DeepEqual(r, api.Result{Value: num(2), Fuel: 4}) {
			t.Errorf("%d, %+v", e, r)
		}
	}
}
