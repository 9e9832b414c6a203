package parser

import "classroom/api"

// The levels of the operators with two operands, from the loosest to the tightest.
const (
	levelOr = iota
	levelAnd
	levelCompare
	levelSum
	levelProduct
	levels
)

// operator returns the operator of this level that a sign stands for, or 0.
func operator(level int, sign string) int {
	at, op := levels, 0
	switch sign {
	case "||":
		at, op = levelOr, api.OpOr
	case "&&":
		at, op = levelAnd, api.OpAnd
	case "==":
		at, op = levelCompare, api.OpEq
	case "!=":
		at, op = levelCompare, api.OpNe
	case "<":
		at, op = levelCompare, api.OpLt
	case "<=":
		at, op = levelCompare, api.OpLe
	case ">":
		at, op = levelCompare, api.OpGt
	case ">=":
		at, op = levelCompare, api.OpGe
	case "+":
		at, op = levelSum, api.OpAdd
	case "-":
		at, op = levelSum, api.OpSub
	case "*":
		at, op = levelProduct, api.OpMul
	case "/":
		at, op = levelProduct, api.OpDiv
	case "%":
		at, op = levelProduct, api.OpRem
	}
	if at != level {
		return 0
	}
	return op
}

func (p *parser) expr() api.Expr { return p.binary(levelOr) }

// binary parses operands of this level and the operators between them.
func (p *parser) binary(level int) api.Expr {
	if level == levels {
		return p.unary()
	}
	left := p.binary(level + 1)
	for p.token().Kind == api.TkSign {
		op := operator(level, p.token().Text)
		if op == 0 {
			break
		}
		p.next++
		right := p.binary(level + 1)
		left = api.Expr{Kind: api.ExBin, Op: op, Args: []api.Expr{left, right}, At: left.At}
		if level == levelCompare {
			break
		}
	}
	return left
}

func (p *parser) unary() api.Expr {
	op := 0
	switch {
	case p.sign("!"):
		op = api.OpNot
	case p.sign("-"):
		op = api.OpNeg
	default:
		return p.post()
	}
	at := p.token().At
	p.enter()
	x := api.Expr{Kind: api.ExUnary, Op: op, Args: []api.Expr{p.unary()}, At: at}
	p.depth--
	return x
}

func (p *parser) post() api.Expr {
	x := p.prim()
	for p.sign("[") {
		p.open("[")
		x = api.Expr{Kind: api.ExIndex, Args: []api.Expr{x, p.expr()}, At: x.At}
		p.close("]")
	}
	return x
}

func (p *parser) prim() api.Expr {
	t := p.token()
	switch {
	case t.Kind == api.TkInt:
		p.next++
		return api.Expr{Kind: api.ExInt, Num: t.Num, At: t.At}
	case p.word("true"):
		p.next++
		return api.Expr{Kind: api.ExBool, Num: 1, At: t.At}
	case p.word("false"):
		p.next++
		return api.Expr{Kind: api.ExBool, At: t.At}
	case t.Kind == api.TkName:
		p.next++
		if p.sign(".") || p.sign("(") {
			return p.call(t)
		}
		return api.Expr{Kind: api.ExName, Name: t.Text, At: t.At}
	case p.sign("("):
		p.open("(")
		x := p.expr()
		p.close(")")
		return x
	case p.sign("["):
		return api.Expr{Kind: api.ExList, Args: p.list("[", "]"), At: t.At}
	case p.word("len"):
		return p.builtin(api.ExLen, 1)
	case p.word("push"):
		return p.builtin(api.ExPush, 2)
	case p.word("set"):
		return p.builtin(api.ExSet, 3)
	}
	p.fail(api.ErrSyntax)
	return api.Expr{}
}

// call parses a call after its first name.
func (p *parser) call(first api.Token) api.Expr {
	x := api.Expr{Kind: api.ExCall, Name: first.Text, At: first.At}
	if p.accept(".") {
		x.Pack, x.Name = first.Text, p.text(api.TkName)
	}
	x.Args = p.list("(", ")")
	return x
}

// list parses any number of expressions in brackets.
func (p *parser) list(left, right string) []api.Expr {
	var l []api.Expr
	p.open(left)
	if !p.sign(right) {
		l = append(l, p.expr())
		for p.accept(",") {
			l = append(l, p.expr())
		}
	}
	p.close(right)
	return l
}

// builtin parses a word and n arguments.
func (p *parser) builtin(kind, n int) api.Expr {
	x := api.Expr{Kind: kind, At: p.token().At}
	p.next++
	p.open("(")
	for i := range n {
		if i > 0 {
			p.expect(",")
		}
		x.Args = append(x.Args, p.expr())
	}
	p.close(")")
	return x
}
