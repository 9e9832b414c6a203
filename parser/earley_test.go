package parser_test

import (
	"math/rand"
	"strings"
	"testing"

	"classroom/api"
	"classroom/lexer"
	"classroom/parser"
)

// grammar is the grammar of the document without its abbreviations: rules of symbols; terminals are in quotes, or are
// NAME, INT and STRING.
const grammar = `
file = imports functions
imports = | imports "import" STRING ";"
functions = | functions function
function = "func" NAME "(" params ")" kind block
params = | paramlist
paramlist = param | paramlist "," param
param = NAME kind
kind = "int" | "bool" | "list"
block = "{" stmts "}"
stmts = | stmts stmt
stmt = "let" NAME "=" expr ";" | NAME "=" expr ";" | "while" expr block | ifstmt | "return" expr ";" | call ";"
ifstmt = "if" expr block | "if" expr block "else" block | "if" expr block "else" ifstmt
call = NAME "(" args ")" | NAME "." NAME "(" args ")"
args = | arglist
arglist = expr | arglist "," expr
expr = and | expr "||" and
and = cmp | and "&&" cmp
cmp = sum | sum relation sum
relation = "==" | "!=" | "<" | "<=" | ">" | ">="
sum = prod | sum "+" prod | sum "-" prod
prod = unary | prod "*" unary | prod "/" unary | prod "%" unary
unary = "!" unary | "-" unary | post
post = prim | post "[" expr "]"
prim = INT | "true" | "false" | NAME | call | "(" expr ")" | "[" args "]" | "len" "(" expr ")" | "push" "(" expr "," expr ")" | "set" "(" expr "," expr "," expr ")"
`

// rules returns the right sides for each symbol.
func rules() map[string][][]string {
	r := map[string][][]string{}
	for _, line := range strings.Split(strings.TrimSpace(grammar), "\n") {
		left, right, _ := strings.Cut(line, " = ")
		for _, side := range strings.Split(" "+right+" ", " | ") {
			r[left] = append(r[left], strings.Fields(side))
		}
	}
	return r
}

// terminal returns the symbol for a token.
func terminal(t api.Token) string {
	switch t.Kind {
	case api.TkName:
		return "NAME"
	case api.TkInt:
		return "INT"
	case api.TkString:
		return "STRING"
	}
	return `"` + t.Text + `"`
}

// item is a rule of which dot symbols have been read since the token from.
type item struct {
	left  string
	side  int
	dot   int
	begin int
}

// mismatch returns the index of the first token that does not fit a grammar, by Earley's algorithm; it is -1 if all fit.
func mismatch(r map[string][][]string, start string, l []api.Token) int {
	states := []map[item]bool{{}}
	var todo []item
	add := func(k int, x item) {
		for len(states) <= k {
			states = append(states, map[item]bool{})
		}
		if !states[k][x] {
			states[k][x] = true
			todo = append(todo, x)
		}
	}
	for s := range r[start] {
		add(0, item{start, s, 0, 0})
	}
	for k := 0; ; k++ {
		complete := false
		// Completing a rule that has read nothing must see items that are added later, so it is repeated.
		for changed := true; changed; {
			before := len(states[k])
			for len(todo) > 0 {
				x := todo[0]
				todo = todo[1:]
				side := r[x.left][x.side]
				if x.dot < len(side) {
					for s := range r[side[x.dot]] {
						add(k, item{side[x.dot], s, 0, k})
					}
					continue
				}
				complete = complete || x.left == start && x.begin == 0
				for y := range states[x.begin] {
					if s := r[y.left][y.side]; y.dot < len(s) && s[y.dot] == x.left {
						add(k, item{y.left, y.side, y.dot + 1, y.begin})
					}
				}
			}
			for x := range states[k] {
				if x.dot == len(r[x.left][x.side]) && x.begin == k {
					todo = append(todo, x)
				}
			}
			if len(todo) > 0 && len(states[k]) == before {
				todo = nil
				changed = false
			}
			changed = changed && len(states[k]) != before
		}
		if l[k].Kind == api.TkEnd {
			if complete {
				return -1
			}
			return k
		}
		for x := range states[k] {
			if s := r[x.left][x.side]; x.dot < len(s) && s[x.dot] == terminal(l[k]) {
				add(k+1, item{x.left, x.side, x.dot + 1, x.begin})
			}
		}
		if len(states) == k+1 {
			return k
		}
	}
}

const sample = `import "a"; import "b/c"; func f(a int, b bool) int { let x = a[1] + -len([1, 2]) * (3); while x < 2 && !b || x == 1 { x = g(x, push([], 1)); c.h(); } if b { f(1, true); } else if false { } else { x = set(y, 1, 2)[0] % 3; } return x; } func g() list { return [] ; }`

func TestP9_1_FirstToken(t *testing.T) {
	r := rules()
	var words []string
	l, _, _ := lexer.Split(sample)
	for _, k := range l[:len(l)-1] {
		text := k.Text
		if k.Kind == api.TkString {
			text = `"` + text + `"`
		}
		words = append(words, text)
	}
	first, last := 0, 0
	for i, w := range words {
		if w == "-" && first == 0 {
			first = i - 6
		}
		if w == "while" {
			last = i - 1
		}
	}
	random := rand.New(rand.NewSource(9))
	seen := map[api.Errno]int{}
	for round := range 6000 {
		start, from := "file", words
		if round%2 == 1 {
			start, from = "expr", words[first:last]
		}
		s := append([]string{}, from...)
		for range 1 + random.Intn(2) {
			i := random.Intn(len(s))
			switch w := words[random.Intn(len(words))]; random.Intn(4) {
			case 0:
				s[i] = w
			case 1:
				s = append(s[:i], append([]string{w}, s[i:]...)...)
			case 2:
				s = append(s[:i], s[i+1:]...)
			case 3:
				s = s[:i+1]
			}
			if len(s) == 0 {
				s = []string{";"}
			}
		}
		text := strings.Join(s, " ")
		tokens, _, e := lexer.Split(text)
		if e != api.OK {
			t.Fatalf("%q: %d", text, e)
		}
		var at int
		if start == "file" {
			_, at, e = parser.Parse(text)
		} else {
			_, at, e = parser.Expression(text)
		}
		seen[e]++
		want := mismatch(r, start, tokens)
		if want < 0 && e != api.OK || want >= 0 && (e != api.ErrSyntax || at != tokens[want].At) {
			t.Fatalf("%q: %d at %d, want token %d", text, e, at, want)
		}
	}
	if seen[api.OK] < 50 || seen[api.ErrSyntax] < 2000 {
		t.Errorf("%v", seen)
	}
}
