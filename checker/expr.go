package checker

import "classroom/api"

// expr returns the type of an expression.
func (c *checker) expr(e api.Expr) (int, bool) {
	switch e.Kind {
	case api.ExInt:
		return api.Int, true
	case api.ExBool:
		return api.Bool, true
	case api.ExName:
		kind, ok := c.lookup(e.Name)
		return kind, ok || c.fail(api.ErrName, e.At)
	case api.ExCall:
		return c.call(e)
	}
	return c.operation(e)
}

func (c *checker) call(e api.Expr) (int, bool) {
	s, ok := c.callee(e)
	if !ok {
		return 0, c.fail(api.ErrName, e.At)
	}
	if len(e.Args) != len(s.Params) {
		return 0, c.fail(api.ErrCount, e.At)
	}
	for i, a := range e.Args {
		kind, ok := c.expr(a)
		if !ok || !c.match(kind, s.Params[i], a) {
			return 0, false
		}
	}
	return s.Result, true
}

// callee returns the signature of the function that is called.
func (c *checker) callee(e api.Expr) (api.Signature, bool) {
	if e.Pack == "" {
		s, ok := c.own[e.Name]
		return s, ok
	}
	dir, ok := c.imports[e.Pack]
	if !ok {
		return api.Signature{}, false
	}
	return Find(c.faces[dir], e.Name)
}

// operation returns the type of an expression whose arguments are all checked before their types are compared.
func (c *checker) operation(e api.Expr) (int, bool) {
	want, result := operands(e)
	if len(want) != len(e.Args) || result == 0 {
		return 0, c.fail(api.ErrSyntax, e.At)
	}
	var kinds []int
	for _, a := range e.Args {
		kind, ok := c.expr(a)
		if !ok {
			return 0, false
		}
		kinds = append(kinds, kind)
	}
	if e.Kind == api.ExBin && (e.Op == api.OpEq || e.Op == api.OpNe) && kinds[0] == api.Bool {
		want = []int{api.Bool, api.Bool}
	}
	for i, a := range e.Args {
		if !c.match(kinds[i], want[i], a) {
			return 0, false
		}
	}
	return result, true
}

// operands returns the types of the arguments and of the result, which is 0 for unknown kinds and operators. The
// comparison of two values of type Bool is left to the caller.
func operands(e api.Expr) ([]int, int) {
	switch e.Kind {
	case api.ExList:
		want := make([]int, len(e.Args))
		for i := range want {
			want[i] = api.Int
		}
		return want, api.List
	case api.ExUnary:
		switch e.Op {
		case api.OpNot:
			return []int{api.Bool}, api.Bool
		case api.OpNeg:
			return []int{api.Int}, api.Int
		}
	case api.ExBin:
		switch {
		case e.Op == api.OpOr || e.Op == api.OpAnd:
			return []int{api.Bool, api.Bool}, api.Bool
		case e.Op >= api.OpEq && e.Op <= api.OpGe:
			return []int{api.Int, api.Int}, api.Bool
		case e.Op >= api.OpAdd && e.Op <= api.OpRem:
			return []int{api.Int, api.Int}, api.Int
		}
	case api.ExIndex:
		return []int{api.List, api.Int}, api.Int
	case api.ExLen:
		return []int{api.List}, api.Int
	case api.ExPush:
		return []int{api.List, api.Int}, api.List
	case api.ExSet:
		return []int{api.List, api.Int, api.Int}, api.List
	}
	return nil, 0
}
