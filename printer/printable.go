package printer

import (
	"unicode/utf8"

	"classroom/api"
	"classroom/lexer"
)

// printableFile reports whether a file could be a result of parser.Parse if there were no limits.
func printableFile(f api.File) bool {
	for _, x := range f.Imports {
		if !isString(x.Path) {
			return false
		}
	}
	for _, x := range f.Funcs {
		if !isName(x.Name) || !isType(x.Result) || !printableStmts(x.Body) {
			return false
		}
		for _, p := range x.Params {
			if !isName(p.Name) || !isType(p.Type) {
				return false
			}
		}
	}
	return true
}

// isString reports whether s may stand between the quotes of a string.
func isString(s string) bool {
	for i := range len(s) {
		if s[i] < ' ' || s[i] > '~' || s[i] == '"' || s[i] == '\\' {
			return false
		}
	}
	return true
}

// isName reports whether s has the form of a name of any length, which lexer.IsName does not accept.
func isName(s string) bool {
	if s == "" || lexer.Reserved(s) || !utf8.ValidString(s) {
		return false
	}
	for i, r := range s {
		letter := 'a' <= r && r <= 'z' || 'A' <= r && r <= 'Z' || r == '_' || r >= utf8.RuneSelf
		digit := '0' <= r && r <= '9'
		if !letter && (i == 0 || !digit) {
			return false
		}
	}
	return true
}

func isType(t int) bool { return t == api.Int || t == api.Bool || t == api.List }

func printableStmts(l []api.Stmt) bool {
	for _, s := range l {
		if !printableStmt(s) {
			return false
		}
	}
	return true
}

func printableStmt(s api.Stmt) bool {
	if len(s.Expr) != 1 || !printableExpr(s.Expr[0]) {
		return false
	}
	switch s.Kind {
	case api.StLet, api.StAssign:
		return isName(s.Name)
	case api.StIf:
		return printableStmts(s.Body) && printableStmts(s.Else)
	case api.StWhile:
		return printableStmts(s.Body)
	case api.StReturn:
		return true
	case api.StCall:
		return s.Expr[0].Kind == api.ExCall
	}
	return false
}

func printableExpr(e api.Expr) bool {
	if !fields(e) {
		return false
	}
	for _, a := range e.Args {
		if !printableExpr(a) {
			return false
		}
	}
	return true
}

// fields reports whether the fields of an expression and the number of its arguments fit its kind.
func fields(e api.Expr) bool {
	n := len(e.Args)
	switch e.Kind {
	case api.ExInt:
		return n == 0 && e.Num >= 0
	case api.ExBool:
		return n == 0 && (e.Num == 0 || e.Num == 1)
	case api.ExName:
		return n == 0 && isName(e.Name)
	case api.ExList:
		return true
	case api.ExUnary:
		return n == 1 && (e.Op == api.OpNot || e.Op == api.OpNeg)
	case api.ExBin:
		return n == 2 && e.Op >= api.OpOr && e.Op <= api.OpRem
	case api.ExCall:
		return isName(e.Name) && (e.Pack == "" || isName(e.Pack))
	case api.ExLen:
		return n == 1
	case api.ExIndex, api.ExPush:
		return n == 2
	case api.ExSet:
		return n == 3
	}
	return false
}

// The levels of the operators with two operands, from the loosest to the tightest.
const (
	levelOr = iota
	levelAnd
	levelCompare
	levelSum
	levelProduct
)

func level(op int) int {
	switch op {
	case api.OpOr:
		return levelOr
	case api.OpAnd:
		return levelAnd
	case api.OpAdd, api.OpSub:
		return levelSum
	case api.OpMul, api.OpDiv, api.OpRem:
		return levelProduct
	}
	return levelCompare
}

// looser reports whether an operand has an operator that binds less tightly than op.
func looser(e api.Expr, op int) bool { return e.Kind == api.ExBin && level(e.Op) < level(op) }

// same reports whether an operand has an operator of the level of op.
func same(e api.Expr, op int) bool { return e.Kind == api.ExBin && level(e.Op) == level(op) }

func sign(op int) string {
	switch op {
	case api.OpOr:
		return "||"
	case api.OpAnd:
		return "&&"
	case api.OpEq:
		return "=="
	case api.OpNe:
		return "!="
	case api.OpLt:
		return "<"
	case api.OpLe:
		return "<="
	case api.OpGt:
		return ">"
	case api.OpGe:
		return ">="
	case api.OpAdd:
		return "+"
	case api.OpSub, api.OpNeg:
		return "-"
	case api.OpMul:
		return "*"
	case api.OpDiv:
		return "/"
	case api.OpRem:
		return "%"
	}
	return "!"
}
