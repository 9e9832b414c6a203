package printer_test

import (
	"math/rand"
	"reflect"
	"strings"
	"testing"
	"time"

	"classroom/api"
	"classroom/parser"
	"classroom/printer"
)

func TestP10_2_Parentheses(t *testing.T) {
	for s, want := range map[string]string{
		"(1+2)*(3)": "(1 + 2) * 3", "1+(2*3)": "1 + 2 * 3", "(1+2)+3": "1 + 2 + 3", "1+(2+3)": "1 + (2 + 3)", "1-(2-3)": "1 - (2 - 3)", "1*(2/3)": "1 * (2 / 3)", "(1*2)%3": "1 * 2 % 3", "1+(2-3)": "1 + (2 - 3)",
		"(a<b)==c": "(a < b) == c", "a==(b<c)": "a == (b < c)", "(a||b)&&c": "(a || b) && c", "a||(b&&c)": "a || b && c", "(a&&b)||c": "a && b || c", "a||(b||c)": "a || (b || c)", "(a&&b)&&c": "a && b && c", "a&&(b&&c)": "a && (b && c)", "(a==b)&&(c==d)": "a == b && c == d", "(a&&b)==c": "(a && b) == c", "(a+b)<(c-d)": "a + b < c - d", "a+(b<c)": "a + (b < c)",
		"-(1+2)": "-(1 + 2)", "-(-1)": "--1", "!(!a)": "!!a", "!(a[0])": "!a[0]", "(-a)[0]": "(-a)[0]", "-a[0]": "-a[0]", "(a+b)[0]": "(a + b)[0]", "(-a)+(-b)": "-a + -b", "-(f())": "-f()", "(a[0])[1]": "a[0][1]", "a[(1+2)]": "a[1 + 2]", "1-(-2)": "1 - -2", "(-a)*b": "-a * b", "-(a*b)": "-(a * b)",
		"f((1),[ ],m . g(2,3))": "f(1, [], m.g(2, 3))", "[(1),2,(3+4)]": "[1, 2, 3 + 4]", "len((a))": "len(a)", "push(a,(1))": "push(a, 1)", "set(a,0,1)[2]": "set(a, 0, 1)[2]", "true==false": "true == false", "007": "7", "9223372036854775807": "9223372036854775807", "[1][0]": "[1][0]", "f()[0]": "f()[0]", "len(a)[0]": "len(a)[0]", "größe": "größe",
		"a!=b": "a != b", "a<=b": "a <= b", "a>b": "a > b", "a>=b": "a >= b", "a/b%c": "a / b % c",
	} {
		x, _, e := parser.Expression(s)
		if e != api.OK {
			t.Fatalf("%q: %d", s, e)
		}
		got, e := printer.Expression(x)
		if got != want || e != api.OK {
			t.Errorf("%q: %q, %d, want %q", s, got, e, want)
		}
	}
}

const pretty = `import "a/b";
import "c";
func f(a int, b bool, c list) int {
	let x = 1;
	x = x + 1;
	while x < 3 {
		b.g(x);
		if true {
			return 1;
		} else if false {
		} else if a == 1 {
			x = 2;
		} else {
			if a == 2 {
			}
			f();
		}
	}
	if a == 1 {
	}
	return x;
}
func g() bool {
}
func h(a int) list {
	return [];
}
`

func TestP10_1_Format(t *testing.T) {
	f, at, e := parser.Parse(pretty)
	if e != api.OK {
		t.Fatalf("%d at %d", e, at)
	}
	if s, e := printer.Format(f); s != pretty || e != api.OK {
		t.Errorf("Format: %q, %d", s, e)
	}
	ugly := strings.NewReplacer("\t", " ", "\n", "  //c\n", ", ", " ,").Replace(pretty)
	if f, _, e = parser.Parse(ugly); e != api.OK {
		t.Fatalf("%q: %d", ugly, e)
	}
	if s, e := printer.Format(f); s != pretty || e != api.OK {
		t.Errorf("Format of an ugly text: %q, %d", s, e)
	}
	if s, e := printer.Format(api.File{}); s != "" || e != api.OK {
		t.Errorf("the empty file: %q, %d", s, e)
	}
	for s, want := range map[string]string{
		"func f() int { if a {} else { if b {} } }":         "func f() int {\n\tif a {\n\t} else if b {\n\t}\n}\n",
		"func f() int { if a {} else { } }":                 "func f() int {\n\tif a {\n\t}\n}\n",
		"func f() int { if a {} else { f(); } }":            "func f() int {\n\tif a {\n\t} else {\n\t\tf();\n\t}\n}\n",
		"func f() int { if a {} else { if b {} if c {} } }": "func f() int {\n\tif a {\n\t} else {\n\t\tif b {\n\t\t}\n\t\tif c {\n\t\t}\n\t}\n}\n",
		"func f() int { if a {} else { while b {} } }":      "func f() int {\n\tif a {\n\t} else {\n\t\twhile b {\n\t\t}\n\t}\n}\n",
		`import "";`: "import \"\";\n",
	} {
		f, _, _ := parser.Parse(s)
		if got, e := printer.Format(f); got != want || e != api.OK {
			t.Errorf("%q: %q, %d", s, got, e)
		}
	}
}

func name(s string) api.Expr         { return api.Expr{Kind: api.ExName, Name: s} }
func num(n int64) api.Expr           { return api.Expr{Kind: api.ExInt, Num: n} }
func un(op int, x api.Expr) api.Expr { return api.Expr{Kind: api.ExUnary, Op: op, Args: []api.Expr{x}} }
func bin(op int, x, y api.Expr) api.Expr {
	return api.Expr{Kind: api.ExBin, Op: op, Args: []api.Expr{x, y}}
}
func args(kind, n int) api.Expr {
	x := api.Expr{Kind: kind, Name: "f", Op: api.OpNot}
	if kind == api.ExBin {
		x.Op = api.OpAdd
	}
	for range n {
		x.Args = append(x.Args, num(1))
	}
	return x
}

func TestP10_2_NotPrintable(t *testing.T) {
	for i, x := range []api.Expr{
		{}, {Kind: 12}, {Kind: -1}, num(-1), {Kind: api.ExBool, Num: 2}, {Kind: api.ExBool, Num: -1}, name(""), name("if"), name("1a"), name("a b"), name("a\xff"), name("\xff"), name("a-"), name(" a"), name("len"), name("a\x7f"),
		un(0, num(1)), un(api.OpSub, num(1)), un(16, num(1)), un(api.OpNot, num(-1)), bin(0, num(1), num(1)), bin(api.OpNot, num(1), num(1)), bin(api.OpNeg, num(1), num(1)), bin(-1, num(1), num(1)), bin(api.OpAdd, num(1), name("")), bin(api.OpAdd, name(""), num(1)),
		{Kind: api.ExCall}, {Kind: api.ExCall, Name: "if"}, {Kind: api.ExCall, Name: "f", Pack: "if"}, {Kind: api.ExCall, Name: "f", Pack: "a.b"}, {Kind: api.ExCall, Name: "f", Args: []api.Expr{{}}}, {Kind: api.ExList, Args: []api.Expr{num(1), num(-1)}},
		args(api.ExInt, 1), args(api.ExBool, 1), args(api.ExName, 1), args(api.ExUnary, 0), args(api.ExUnary, 2), args(api.ExBin, 1), args(api.ExBin, 3), args(api.ExIndex, 0), args(api.ExIndex, 1), args(api.ExIndex, 3), args(api.ExLen, 0), args(api.ExLen, 2), args(api.ExPush, 1), args(api.ExPush, 3), args(api.ExSet, 2), args(api.ExSet, 4),
	} {
		if s, e := printer.Expression(x); s != "" || e != api.ErrSyntax {
			t.Errorf("expression %d: %q, %d", i, s, e)
		}
		f := api.File{Funcs: []api.Func{{Name: "f", Result: api.Int, Body: []api.Stmt{{Kind: api.StReturn, Expr: []api.Expr{x}}}}}}
		if s, e := printer.Format(f); s != "" || e != api.ErrSyntax {
			t.Errorf("a file with the expression %d: %q, %d", i, s, e)
		}
	}
	// This comes before all limits.
	for i, x := range []api.Expr{name(""), name("if"), {Kind: api.ExCall}, {Kind: api.ExCall, Name: "if"}, {Kind: api.ExCall, Name: "f", Pack: "if"}, un(api.OpSub, num(1)), bin(0, num(1), num(1)), bin(api.OpNot, num(1), num(1)), num(-1), args(api.ExLen, 2), {Kind: 12}} {
		for _, y := range []api.Expr{bin(api.OpAdd, args(api.ExList, 5000), x), bin(api.OpAdd, x, args(api.ExList, 5000))} {
			if s, e := printer.Expression(y); s != "" || e != api.ErrSyntax {
				t.Errorf("long expression %d: %q, %d", i, s, e)
			}
		}
	}
	// Fields that a kind does not have do not matter.
	x := api.Expr{Kind: api.ExInt, Num: 3, Op: 99, Pack: "if", Name: "\xff", At: -7}
	if s, e := printer.Expression(x); s != "3" || e != api.OK {
		t.Errorf("further fields: %q, %d", s, e)
	}
	x = api.Expr{Kind: api.ExName, Num: -3, Op: 99, Pack: "if", Name: "a", At: -7}
	if s, e := printer.Expression(x); s != "a" || e != api.OK {
		t.Errorf("further fields: %q, %d", s, e)
	}
}

// body returns a file with a function with these statements.
func body(l ...api.Stmt) api.File {
	return api.File{Funcs: []api.Func{{Name: "f", Result: api.Int, Body: l}}}
}

func TestP10_1_NotPrintable(t *testing.T) {
	one := []api.Expr{num(1)}
	call := []api.Expr{{Kind: api.ExCall, Name: "f"}}
	bad := api.Stmt{Kind: api.StReturn}
	for i, f := range []api.File{
		{Imports: []api.Import{{Path: "a\"b"}}}, {Imports: []api.Import{{Path: "a\\"}}}, {Imports: []api.Import{{Path: "a\n"}}}, {Imports: []api.Import{{Path: "ö"}}}, {Imports: []api.Import{{Path: "\x7f"}}}, {Imports: []api.Import{{Path: "\xff"}}},
		{Funcs: []api.Func{{Name: "", Result: 1}}}, {Funcs: []api.Func{{Name: "if", Result: 1}}}, {Funcs: []api.Func{{Name: "f"}}}, {Funcs: []api.Func{{Name: "f", Result: 4}}}, {Funcs: []api.Func{{Name: "f", Result: 1, Params: []api.Param{{Name: "a"}}}}}, {Funcs: []api.Func{{Name: "f", Result: 1, Params: []api.Param{{Name: "a", Type: 1}, {Name: "", Type: 1}}}}}, {Funcs: []api.Func{{Name: "f", Result: 1, Params: []api.Param{{Name: "a", Type: 4}}}}},
		body(bad), body(api.Stmt{Expr: one}), body(api.Stmt{Kind: 7, Expr: one}), body(api.Stmt{Kind: api.StReturn, Expr: []api.Expr{num(1), num(1)}}), body(api.Stmt{Kind: api.StLet, Expr: one}), body(api.Stmt{Kind: api.StAssign, Expr: one, Name: "if"}), body(api.Stmt{Kind: api.StCall, Expr: one}), body(api.Stmt{Kind: api.StCall, Expr: []api.Expr{name("f")}}), body(api.Stmt{Kind: api.StCall}),
		body(api.Stmt{Kind: api.StIf, Expr: one, Body: []api.Stmt{bad}}), body(api.Stmt{Kind: api.StIf, Expr: one, Else: []api.Stmt{bad}}), body(api.Stmt{Kind: api.StWhile, Expr: one, Body: []api.Stmt{bad}}), body(api.Stmt{Kind: api.StCall, Expr: call}, bad),
	} {
		if s, e := printer.Format(f); s != "" || e != api.ErrSyntax {
			t.Errorf("file %d: %q, %d", i, s, e)
		}
	}
	odd := body(api.Stmt{Kind: api.StWhile, Expr: one, Name: "if", Else: []api.Stmt{bad}, At: -1}, api.Stmt{Kind: api.StCall, Expr: call, Body: []api.Stmt{bad}}, api.Stmt{Kind: api.StIf, Name: "1", Expr: one})
	if s, e := printer.Format(odd); s != "func f() int {\n\twhile 1 {\n\t}\n\tf();\n\tif 1 {\n\t}\n}\n" || e != api.OK {
		t.Errorf("further fields: %q, %d", s, e)
	}
}

func TestP10_1_AllBytes(t *testing.T) {
	const letters = "abcdefghijklmnopqrstuvwxyzABCDEFGHIJKLMNOPQRSTUVWXYZ_"
	for c := range 256 {
		b := string([]byte{byte(c)})
		first := strings.Contains(letters, b)
		next := first || strings.Contains("0123456789", b)
		for s, want := range map[string]bool{b: first, "x" + b: next} {
			if _, e := printer.Expression(name(s)); (e == api.OK) != want || !want && e != api.ErrSyntax {
				t.Errorf("the name %q: %d", s, e)
			}
			// It is the same for names that are too long.
			if _, e := printer.Expression(name(s + strings.Repeat("x", 5000))); (e == api.ErrLong) != want || !want && e != api.ErrSyntax {
				t.Errorf("a long name with %q: %d", s, e)
			}
		}
		if _, e := printer.Expression(name(string(rune(c + 128)))); e != api.OK {
			t.Errorf("the name U+%04X: %d", c+128, e)
		}
		good := c >= 32 && c <= 126 && c != '"' && c != '\\'
		for _, long := range []string{"", strings.Repeat("x", 5000)} {
			want := map[bool]api.Errno{true: api.OK, false: api.ErrSyntax}[good]
			if good && long != "" {
				want = api.ErrLong
			}
			if _, e := printer.Format(api.File{Imports: []api.Import{{Path: b + long}}}); e != want {
				t.Errorf("the import %q: %d", b, e)
			}
		}
	}
}

func TestP10_1_Limits(t *testing.T) {
	deep := num(1)
	for range 33 {
		deep = un(api.OpNeg, deep)
	}
	right := num(1)
	for range 40 {
		right = bin(api.OpAdd, num(1), right)
	}
	left := num(1)
	for range 40 {
		left = bin(api.OpAdd, left, num(1))
	}
	long := name(strings.Repeat("x", 25))
	for i, x := range []struct {
		x    api.Expr
		want api.Errno
	}{
		{deep, api.ErrDeep}, {deep.Args[0], api.OK}, {right, api.ErrDeep}, {left, api.OK}, {long, api.ErrLong}, {name(strings.Repeat("x", 24)), api.OK}, {name(strings.Repeat("x", 5000)), api.ErrLong}, {args(api.ExList, 511), api.OK}, {args(api.ExList, 512), api.ErrLong}, {args(api.ExList, 20000), api.ErrLong},
		{bin(api.OpAdd, long, name("")), api.ErrSyntax}, {bin(api.OpAdd, deep, num(-1)), api.ErrSyntax}, {bin(api.OpAdd, args(api.ExList, 5000), num(-1)), api.ErrSyntax}, {bin(api.OpAdd, deep, long), api.ErrLong}, {bin(api.OpAdd, long, deep), api.ErrLong},
	} {
		if s, e := printer.Expression(x.x); e != x.want || (s == "") != (e != api.OK) {
			t.Errorf("expression %d: %q, %d, want %d", i, s, e, x.want)
		}
	}
	many := api.File{Funcs: make([]api.Func, 65)}
	for i := range many.Funcs {
		many.Funcs[i] = api.Func{Name: "f", Result: api.Int}
	}
	if s, e := printer.Format(many); s != "" || e != api.ErrLong {
		t.Errorf("65 functions: %q, %d", s, e)
	}
	if s, e := printer.Format(api.File{Imports: make([]api.Import, 17)}); s != "" || e != api.ErrLong {
		t.Errorf("17 imports: %q, %d", s, e)
	}
	if s, e := printer.Format(api.File{Imports: []api.Import{{Path: strings.Repeat("a", 4000)}}}); e != api.OK || len(s) != 4011 {
		t.Errorf("a long import: %d", e)
	}
	if s, e := printer.Format(api.File{Imports: []api.Import{{Path: strings.Repeat("a", 4085)}}}); e != api.OK || len(s) != api.MaxContent {
		t.Errorf("a text with MaxContent bytes: %d", e)
	}
	if _, e := printer.Format(api.File{Imports: []api.Import{{Path: strings.Repeat("a", 4086)}}}); e != api.ErrLong {
		t.Errorf("a longer import: %d", e)
	}
}

// A tree with very many levels is rejected soon, although its text would be very long.
func TestP10_1_VeryDeep(t *testing.T) {
	begin := time.Now()
	x, s := num(1), api.Stmt{Kind: api.StReturn, Expr: []api.Expr{num(1)}}
	for range 1 << 15 {
		x = un(api.OpNot, x)
		s = api.Stmt{Kind: api.StWhile, Expr: []api.Expr{num(1)}, Body: []api.Stmt{s, s}[:1]}
	}
	if _, e := printer.Expression(x); e != api.ErrLong {
		t.Errorf("a deep expression: %d", e)
	}
	if _, e := printer.Format(body(s)); e != api.ErrLong {
		t.Errorf("a deep statement: %d", e)
	}
	if d := time.Since(begin); d > 20*time.Second {
		t.Errorf("it took %v", d)
	}
}

// randomExpr returns a printable expression.
func randomExpr(r *rand.Rand, depth int) api.Expr {
	if depth == 0 {
		return []api.Expr{num(int64(r.Intn(9))), name("a"), {Kind: api.ExBool, Num: int64(r.Intn(2))}, {Kind: api.ExList}, {Kind: api.ExCall, Name: "f"}, {Kind: api.ExCall, Pack: "m", Name: "g"}}[r.Intn(6)]
	}
	x := api.Expr{Kind: []int{api.ExUnary, api.ExBin, api.ExBin, api.ExBin, api.ExIndex, api.ExCall, api.ExList, api.ExLen, api.ExPush, api.ExSet}[r.Intn(10)]}
	n := 2
	switch x.Kind {
	case api.ExUnary:
		x.Op, n = []int{api.OpNot, api.OpNeg}[r.Intn(2)], 1
	case api.ExBin:
		x.Op = 1 + r.Intn(13)
	case api.ExCall:
		x.Name, n = "h", r.Intn(3)
	case api.ExList:
		n = r.Intn(3)
	case api.ExLen:
		n = 1
	case api.ExSet:
		n = 3
	}
	for range n {
		x.Args = append(x.Args, randomExpr(r, r.Intn(depth)))
	}
	return x
}

func randomBlock(r *rand.Rand, depth int) []api.Stmt {
	var l []api.Stmt
	for range r.Intn(3) {
		s := api.Stmt{Kind: 1 + r.Intn(6), Expr: []api.Expr{randomExpr(r, 2)}}
		switch s.Kind {
		case api.StLet, api.StAssign:
			s.Name = "x"
		case api.StCall:
			s.Expr[0] = api.Expr{Kind: api.ExCall, Name: "f"}
		case api.StIf, api.StWhile:
			if depth > 0 {
				s.Body = randomBlock(r, depth-1)
			}
			if s.Kind == api.StIf && depth > 0 {
				s.Else = randomBlock(r, depth-1)
			}
		}
		l = append(l, s)
	}
	return l
}

func clearExpr(x *api.Expr) {
	x.At = 0
	for i := range x.Args {
		clearExpr(&x.Args[i])
	}
}

func clearStmts(l []api.Stmt) {
	for i := range l {
		l[i].At = 0
		clearExpr(&l[i].Expr[0])
		clearStmts(l[i].Body)
		clearStmts(l[i].Else)
	}
}

func TestP10_3_Inverse(t *testing.T) {
	r := rand.New(rand.NewSource(12))
	good := 0
	for range 5000 {
		x := randomExpr(r, 4)
		s, e := printer.Expression(x)
		if e != api.OK {
			continue
		}
		good++
		y, _, e := parser.Expression(s)
		if clearExpr(&y); e != api.OK || !reflect.DeepEqual(x, y) {
			t.Fatalf("%q is parsed as %v, not %v", s, y, x)
		}
		if again, e := printer.Expression(y); again != s || e != api.OK {
			t.Fatalf("%q, %q", s, again)
		}
		// No pair of parentheses can be left out.
		for i := range s {
			if s[i] == '(' && (i == 0 || strings.IndexByte(" ([-!", s[i-1]) >= 0) {
				less := s[:i] + " " + s[i+1:match(s, i)] + " " + s[match(s, i)+1:]
				z, _, e := parser.Expression(less)
				if clearExpr(&z); e == api.OK && reflect.DeepEqual(x, z) {
					t.Fatalf("%q has parentheses that are not necessary", s)
				}
			}
		}
	}
	for range 3000 {
		f := api.File{Imports: []api.Import{{Path: "a b"}}, Funcs: []api.Func{{Name: "f", Result: api.Bool, Params: []api.Param{{Name: "p", Type: api.List}}, Body: randomBlock(r, 3)}}}
		s, e := printer.Format(f)
		if e != api.OK {
			continue
		}
		good++
		g, _, e := parser.Parse(s)
		for i := range g.Imports {
			g.Imports[i].At = 0
		}
		for i := range g.Funcs {
			g.Funcs[i].At = 0
			clearStmts(g.Funcs[i].Body)
		}
		if e != api.OK || !reflect.DeepEqual(f, g) {
			t.Fatalf("%q is parsed as %v, not %v", s, g, f)
		}
		if again, e := printer.Format(g); again != s || e != api.OK {
			t.Fatalf("%q, %q", s, again)
		}
	}
	if good < 6000 {
		t.Errorf("only %d trees are within the limits", good)
	}
}

// match returns the index of the parenthesis that closes the one at i.
func match(s string, i int) int {
	n := 0
	for k := i; k < len(s); k++ {
		switch s[k] {
		case '(':
			n++
		case ')':
			n--
		}
		if n == 0 {
			return k
		}
	}
	return len(s) - 1
}
