package parser_test

import (
	"fmt"
	"math/rand"
	"reflect"
	"strings"
	"testing"

	"classroom/api"
	"classroom/parser"
)

var signs = map[int]string{api.OpOr: "||", api.OpAnd: "&&", api.OpEq: "==", api.OpNe: "!=", api.OpLt: "<", api.OpLe: "<=", api.OpGt: ">", api.OpGe: ">=", api.OpAdd: "+", api.OpSub: "-", api.OpMul: "*", api.OpDiv: "/", api.OpRem: "%", api.OpNot: "!", api.OpNeg: "~"}

// show writes an expression with all fields that it has; the offsets follow @ if at is true.
func show(x api.Expr, at bool) string {
	s := ""
	rest := x
	rest.Kind, rest.At, rest.Args = 0, 0, nil
	switch x.Kind {
	case api.ExInt:
		s, rest.Num = fmt.Sprint(x.Num), 0
	case api.ExBool:
		s, rest.Num = fmt.Sprint("b", x.Num), 0
	case api.ExName:
		s, rest.Name = x.Name, ""
	case api.ExList:
		s = "list"
	case api.ExUnary, api.ExBin:
		s, rest.Op = signs[x.Op], 0
	case api.ExCall:
		s, rest.Name, rest.Pack = x.Pack+"."+x.Name, "", ""
	case api.ExIndex:
		s = "index"
	case api.ExLen:
		s = "len"
	case api.ExPush:
		s = "push"
	case api.ExSet:
		s = "set"
	default:
		s = fmt.Sprint("kind", x.Kind)
	}
	if !reflect.DeepEqual(rest, api.Expr{}) {
		s += "!!"
	}
	if at {
		s += fmt.Sprint("@", x.At)
	}
	if x.Kind == api.ExInt || x.Kind == api.ExBool || x.Kind == api.ExName {
		if len(x.Args) > 0 {
			s += "!!"
		}
		return s
	}
	for _, a := range x.Args {
		s += " " + show(a, at)
	}
	return "(" + s + ")"
}

// stmts writes statements with their offsets.
func stmts(l []api.Stmt) string {
	s := "{"
	for _, x := range l {
		name, e := "", "none"
		if len(x.Expr) == 1 {
			e = show(x.Expr[0], true)
		}
		switch x.Kind {
		case api.StLet:
			name = "let "
		case api.StAssign:
			name = "set "
		case api.StIf:
			name = "if"
		case api.StWhile:
			name = "while"
		case api.StReturn:
			name = "return"
		case api.StCall:
			name = "call"
		}
		s += fmt.Sprintf("%s%s@%d %s", name, x.Name, x.At, e)
		if x.Kind == api.StIf || x.Kind == api.StWhile || len(x.Body) > 0 {
			s += stmts(x.Body)
		}
		if len(x.Else) > 0 {
			s += "else" + stmts(x.Else)
		}
		s += ";"
	}
	return s + "}"
}

func file(f api.File) string {
	s := ""
	for _, x := range f.Imports {
		s += fmt.Sprintf("import %q@%d ", x.Path, x.At)
	}
	for _, x := range f.Funcs {
		s += fmt.Sprintf("func %s@%d %v %d %s ", x.Name, x.At, x.Params, x.Result, stmts(x.Body))
	}
	return strings.TrimSuffix(s, " ")
}

func TestP9_2_Expression(t *testing.T) {
	for s, want := range map[string]string{
		"1 - 2 - 3":           "(-@0 (-@0 1@0 2@4) 3@8)",
		"1-(2-3)":             "(-@0 1@0 (-@3 2@3 3@5))",
		"(1)+2":               "(+@1 1@1 2@4)",
		"((a))":               "a@2",
		"a||b&&c==d+e*-f":     "(||@0 a@0 (&&@3 b@3 (==@6 c@6 (+@9 d@9 (*@11 e@11 (~@13 f@14))))))",
		"-a*b+c<d&&e||f":      "(||@0 (&&@0 (<@0 (+@0 (*@0 (~@0 a@1) b@3) c@5) d@7) e@10) f@13)",
		"a||b||c":             "(||@0 (||@0 a@0 b@3) c@6)",
		"a&&b&&c":             "(&&@0 (&&@0 a@0 b@3) c@6)",
		"a*b/c%d":             "(%@0 (/@0 (*@0 a@0 b@2) c@4) d@6)",
		"a+b-c":               "(-@0 (+@0 a@0 b@2) c@4)",
		"(a<b)==(c>=d)":       "(==@1 (<@1 a@1 b@3) (>=@8 c@8 d@11))",
		"a<=b":                "(<=@0 a@0 b@3)",
		"a>b":                 "(>@0 a@0 b@2)",
		"a!=b":                "(!=@0 a@0 b@3)",
		"!!-a":                "(!@0 (!@1 (~@2 a@3)))",
		"-a[1]":               "(~@0 (index@1 a@1 1@3))",
		"(-a)[1][2]":          "(index@1 (index@1 (~@1 a@2) 1@5) 2@8)",
		"f()":                 "(.f@0)",
		"p . f ( a , 1 )":     "(p.f@0 a@8 1@12)",
		"f(g(1),[2])":         "(.f@0 (.g@2 1@4) (list@7 2@8))",
		"[]":                  "(list@0)",
		"[1,a+b]":             "(list@0 1@1 (+@3 a@3 b@5))",
		"[1][0]":              "(index@0 (list@0 1@1) 0@4)",
		"len(a)":              "(len@0 a@4)",
		"push(a,1)":           "(push@0 a@5 1@7)",
		"set(a,1,2)[0]":       "(index@0 (set@0 a@4 1@6 2@8) 0@11)",
		"true!=false":         "(!=@0 b1@0 b0@6)",
		"9223372036854775807": "9223372036854775807@0",
		"007":                 "7@0",
		"größe":               "größe@0",
		"//c\n(\n(a\n))//d":   "a@7",
		"f(1)[2]":             "(index@0 (.f@0 1@2) 2@5)",
		"1[2]":                "(index@0 1@0 2@2)",
	} {
		x, at, e := parser.Expression(s)
		if got := show(x, true); got != want || at != 0 || e != api.OK {
			t.Errorf("Expression(%q): %s, %d, %d; want %s", s, got, at, e, want)
		}
	}
}

func TestP9_2_Errors(t *testing.T) {
	for s, want := range map[string]int{
		"": 0, "a < b < c": 6, "a == b != c": 7, "a +": 3, "a b": 2, "(a": 2, "a)": 1, "[1,]": 3, "[,": 1, "f(,)": 2, "f(1,)": 4, "f(1": 3, "f(1 2)": 4, "p.1": 2, "p.f": 3, "p.f + 1": 4, "a.b.c()": 3, "p.()": 2, "p.if()": 2, "1 + p.(1)": 6, "len()": 4, "len(a,b)": 5, "len a": 4,
		"push(a)": 6, "push(a,b,c)": 8, "set(a,b)": 7, "set(a,b,c,d)": 9, "\"s\"": 0, "if": 0, "a=b": 1, "!": 1, "-": 1, "+a": 0, "* a": 0, "a[": 2, "a[]": 2, "a[1": 3, "a;": 1, "1.f()": 1, "f()()": 3, "len": 3, "true()": 4, "p.len(a)": 2, "()": 1, "{": 0, "a!b": 1, "a && && b": 5, "int": 0, "(1)(2)": 3, "a.": 2,
	} {
		if x, at, e := parser.Expression(s); !reflect.DeepEqual(x, api.Expr{}) || at != want || e != api.ErrSyntax {
			t.Errorf("Expression(%q): %v, %d, %d; want %d", s, x, at, e, want)
		}
	}
	for s, want := range map[string]struct {
		at int
		e  api.Errno
	}{"a + + #": {6, api.ErrToken}, "a \xff": {2, api.ErrRune}, ") 9223372036854775808": {2, api.ErrNumber}, strings.Repeat(" ", 4097): {0, api.ErrLong}, ") " + strings.Repeat("a", 25): {2, api.ErrLong}} {
		if _, at, e := parser.Expression(s); at != want.at || e != want.e {
			t.Errorf("Expression(%q): %d, %d", s, at, e)
		}
	}
}

func TestP9_1_File(t *testing.T) {
	for s, want := range map[string]string{
		"":                                     "",
		"// nothing\n":                         "",
		`import "a/b"; import "";`:             `import "a/b"@0 import ""@14`,
		"func f() int { }":                     "func f@0 [] 1 {}",
		" func f(a int,b bool , c list)list{}": "func f@1 [{a 1} {b 2} {c 3}] 3 {}",
		`import "m"; func f() bool {} func g() int {}`:                `import "m"@0 func f@12 [] 2 {} func g@29 [] 1 {}`,
		"func f() int { let x = 1; x = x+1; f(); m.f(2); return x; }": "func f@0 [] 1 {let x@15 1@23;set x@26 (+@30 x@30 1@32);call@35 (.f@35);call@40 (m.f@40 2@44);return@48 x@55;}",
		"func f() int { while a { b = 1; } }":                         "func f@0 [] 1 {while@15 a@21{set b@25 1@29;};}",
		"func f() int { if a { } }":                                   "func f@0 [] 1 {if@15 a@18{};}",
		"func f() int { if a { f(); } else { g(); } }":                "func f@0 [] 1 {if@15 a@18{call@22 (.f@22);}else{call@36 (.g@36);};}",
		"func f() int { if a {} else if b {} else { f(); } f(); }":    "func f@0 [] 1 {if@15 a@18{}else{if@28 b@31{}else{call@43 (.f@43);};};call@50 (.f@50);}",
		"func f() int { if a {} else {} }":                            "func f@0 [] 1 {if@15 a@18{};}",
		"func f() int { if (a) { if b {} } else { if c {} } }":        "func f@0 [] 1 {if@15 a@19{if@24 b@27{};}else{if@41 c@44{};};}",
		"func f() int { return (1); return f()[0]; }":                 "func f@0 [] 1 {return@15 1@23;return@27 (index@34 (.f@34) 0@38);}",
	} {
		f, at, e := parser.Parse(s)
		if got := file(f); got != want || at != 0 || e != api.OK {
			t.Errorf("Parse(%q): %s, %d, %d; want %s", s, got, at, e, want)
		}
	}
}

func TestP9_1_Syntax(t *testing.T) {
	for s, want := range map[string]int{
		"x": 0, "import": 6, "import a;": 7, `import "a"`: 10, `import "a" "b";`: 11, `func f() int {} import "a";`: 16, "func": 4, "func 1": 5, "func () int {}": 5, "import ;": 7, "func f(int) int {}": 7, "func f(a int, int) int {}": 14, "func f() int { let = 1; }": 19, "func f() int { p.(); }": 17, "func int() int {}": 5, "func f": 6, "func f{": 6, "func f(": 7, "func f(a": 8, "func f(a)": 8, "func f(a int": 12, "func f(a int,)": 13, "func f(a int b int)": 13, "func f(,": 7, "func f(a x)": 9,
		"func f()": 8, "func f() {}": 9, "func f() x {}": 9, "func f() int": 12, "func f() int return": 13, "func f() int {": 14, "func f() int {} }": 16, "func f() int {};": 15,
		"func f() int { let": 18, "func f() int { let 1 =": 19, "func f() int { let x 1": 21, "func f() int { let x == 1": 21, "func f() int { let x = ;": 23, "func f() int { let x = 1 }": 25, "func f() int { x }": 17, "func f() int { x + 1; }": 17, "func f() int { x == 1; }": 17, "func f() int { x = ; }": 19, "func f() int { x[0] = 1; }": 16, "func f() int { x.y = 1; }": 19, "func f() int { x.f; }": 18,
		"func f() int { f() }": 19, "func f() int { f() + 1; }": 19, "func f() int { f()[0]; }": 18, "func f() int { 1; }": 15, "func f() int { (f()); }": 15, "func f() int { ; }": 15, "func f() int { {} }": 15, "func f() int { else {} }": 15, "func f() int { if a b }": 20, "func f() int { if {} }": 18, "func f() int { if a {} else b }": 28, "func f() int { if a {} else while b {} }": 28, "func f() int { while a ; }": 23, "func f() int { return; }": 21, "func f() int { return 1 }": 24, "func f() int { len(a); }": 15, "func f() int { func": 15, "func f() int { if a {} else {} else {} }": 31, "func f(a int bool)": 13, "func m.f() int {}": 6,
	} {
		if f, at, e := parser.Parse(s); len(f.Imports)+len(f.Funcs) != 0 || at != want || e != api.ErrSyntax {
			t.Errorf("Parse(%q): %v, %d, %d; want %d", s, f, at, e, want)
		}
	}
}

// in returns a text with n times left before and n times right after the middle.
func in(n int, left, middle, right string) string {
	return strings.Repeat(left, n) + middle + strings.Repeat(right, n)
}

func TestP9_1_Deep(t *testing.T) {
	for _, x := range [][3]string{{"(", "1", ")"}, {"[", "", "]"}, {"-", "1", ""}, {"!", "a", ""}, {"f(", "1", ")"}, {"a[", "1", "]"}, {"len(", "a", ")"}, {"push(a,", "1", ")"}, {"set(a,1,", "1", ")"}, {"m.f(1,", "1", ")"}, {"-(", "1", ")"}} {
		per := 1
		if x[0] == "-(" {
			per = 2
		}
		if _, at, e := parser.Expression(in(32/per, x[0], x[1], x[2])); e != api.OK || at != 0 {
			t.Errorf("32 of %q: %d, %d", x[0], at, e)
		}
		s := in(33, x[0], x[1], x[2])
		want := len(x[0])*33/per - len(x[0])/per
		if x[0][0] != '(' && x[0][0] != '[' && x[0][0] != '-' && x[0][0] != '!' {
			want = len(x[0])*32 + strings.IndexAny(x[0], "([")
		}
		if per == 2 {
			want = 32
		}
		if _, at, e := parser.Expression(s); e != api.ErrDeep || at != want {
			t.Errorf("33 of %q: %d, %d, want %d", x[0], at, e, want)
		}
	}
	ok := []string{in(31, "(", "(1)+(2)+f(3)+[4][0]+-5", ")"), in(32, "(", "1", ")") + "+" + in(32, "-", "1", ""), in(31, "(", "-1 + -2 + a[3][4][5]", ")"), strings.Repeat("[1][0] + ", 50) + "1"}
	for _, s := range ok {
		if _, at, e := parser.Expression(s); e != api.OK {
			t.Errorf("%q: %d, %d", s, at, e)
		}
	}
	for s, want := range map[string]int{
		in(31, "(", "-(1)", ")"): 32, in(31, "(", "-a[1]", ")"): 33, in(31, "(", "- -1", ")"): 33, in(31, "(", "a[b[1]]", ")"): 34, in(32, "(", "a[1]", ")"): 33, in(32, "(", "[]", ")"): 32, in(32, "(", "f(", ")"): 33, in(32, "(", "-)", ")"): 32, in(32, "(", "-a", ")"): 32,
	} {
		if _, at, e := parser.Expression(s); e != api.ErrDeep || at != want {
			t.Errorf("%q: %d, %d, want %d", s, at, e, want)
		}
	}
	// A token that does not fit is an ErrSyntax, however deep it is.
	if _, at, e := parser.Expression(in(32, "(", "1 (", ")")); e != api.ErrSyntax || at != 34 {
		t.Errorf("a bracket that does not fit: %d, %d", at, e)
	}
	if _, at, e := parser.Expression(in(32, "(", "1 !", ")")); e != api.ErrSyntax || at != 34 {
		t.Errorf("an operator that does not fit: %d, %d", at, e)
	}
	deepBlocks(t)
}

func deepBlocks(t *testing.T) {
	head := "func f() int "
	for _, w := range []string{"while a ", "if a "} {
		good := head + in(31, "{"+w, "{ f(); }", "}")
		bad := head + in(31, "{"+w, "{ f(1); "+w+"{ } }", "}")
		if _, at, e := parser.Parse(good); e != api.ErrDeep || at != strings.Index(good, "f();")+1 {
			t.Errorf("a call within 32 blocks: %d, %d", at, e)
		}
		bad = strings.Replace(bad, "f(1); ", "", 1)
		if _, at, e := parser.Parse(bad); e != api.ErrDeep || at != strings.LastIndexByte(bad, '{') {
			t.Errorf("33 blocks: %d, %d", at, e)
		}
		if _, at, e := parser.Parse(head + in(31, "{"+w, "{ }", "}")); e != api.OK {
			t.Errorf("32 blocks: %d, %d", at, e)
		}
	}
	// An else is no deeper than its if.
	if _, at, e := parser.Parse(head + "{" + strings.Repeat("if a {} else ", 60) + "{} }"); e != api.OK {
		t.Errorf("else: %d, %d", at, e)
	}
}

func TestP9_1_Long(t *testing.T) {
	list := func(n int, s string) string { return strings.TrimSuffix(strings.Repeat(s+",", n), ",") }
	ok := []string{"func f(" + list(8, "a int") + ") int {}", strings.Repeat("func f() int {} ", 64), strings.Repeat(`import "a"; `, 16), "func f() int { f(" + list(99, "1") + "); }"}
	for _, s := range ok {
		if _, at, e := parser.Parse(s); e != api.OK {
			t.Errorf("Parse(%q): %d, %d", s, at, e)
		}
	}
	nine := "func f(" + list(8, "a int") + ", b int) int {}"
	for s, x := range map[string]struct {
		at int
		e  api.Errno
	}{
		nine: {strings.Index(nine, "b"), api.ErrLong},
		"func f(" + list(8, "a int") + ", ) int {}":     {len("func f("+list(8, "a int")) + 2, api.ErrSyntax},
		"func f(" + list(8, "a int") + ", b":            {len("func f("+list(8, "a int")) + 2, api.ErrLong},
		strings.Repeat("func f() int {} ", 65):          {64 * 16, api.ErrLong},
		strings.Repeat("func f() int {} ", 64) + "x":    {64 * 16, api.ErrSyntax},
		strings.Repeat("func f() int {} ", 64) + "func": {64 * 16, api.ErrLong},
		strings.Repeat(`import "a"; `, 17):              {16 * 12, api.ErrLong},
		strings.Repeat(`import "a"; `, 16) + "import":   {16 * 12, api.ErrLong},
		"func f() int {} import":                        {16, api.ErrSyntax},
		strings.Repeat(`import "a"; `, 16) + "x":        {16 * 12, api.ErrSyntax},
		"} " + strings.Repeat(";", 1024):                {2 + 1023, api.ErrLong},
		"#":                                             {0, api.ErrToken},
	} {
		if f, at, e := parser.Parse(s); e != x.e || at != x.at || len(f.Imports)+len(f.Funcs) != 0 {
			t.Errorf("Parse(%q): %d, %d; want %d, %d", s, at, e, x.at, x.e)
		}
	}
}

func TestP9_3_Blanks(t *testing.T) {
	r := rand.New(rand.NewSource(11))
	for range 3000 {
		plain, spaced := random(r, 4)
		x, _, e1 := parser.Expression(plain)
		y, at, e2 := parser.Expression(spaced)
		if e1 != api.OK || e2 != api.OK || show(x, false) != show(y, false) {
			t.Fatalf("%q: %s, %d; %q: %s, %d at %d", plain, show(x, false), e1, spaced, show(y, false), e2, at)
		}
	}
}

// random returns an expression, and the same with blanks, comments and further parentheses.
func random(r *rand.Rand, depth int) (string, string) {
	gap := func() string { return []string{"", " ", "\n", "//x ( \n", "\t\r"}[r.Intn(5)] }
	if depth == 0 || r.Intn(5) == 0 {
		s := []string{"a", "1", "true", "f()", "[]"}[r.Intn(5)]
		return s, gap() + s + gap()
	}
	a, x := random(r, depth-1)
	b, y := random(r, depth-1)
	if r.Intn(2) == 0 {
		x, a = "("+gap()+"("+x+"))", "("+a+")"
		y, b = "("+y+")"+gap(), "("+b+")"
		op := []string{"+", "*", "<", "&&", "||", "-", "=="}[r.Intn(7)]
		return a + op + b, x + gap() + op + gap() + y
	}
	switch r.Intn(5) {
	case 0:
		return "-(" + a + ")", "-" + gap() + "(" + x + ")"
	case 1:
		return "(" + a + ")[" + b + "]", "((" + x + "))" + gap() + "[" + y + "]"
	case 2:
		return "m.f(" + a + "," + b + ")", "m" + gap() + "." + gap() + "f" + gap() + "(" + x + ",(" + y + "))"
	case 3:
		return "[" + a + "]", "[(" + x + ")]"
	}
	return "push(" + a + "," + b + ")", "push" + gap() + "(" + x + "," + y + ")"
}
