package interp

import (
	"slices"

	"classroom/api"
)

// variable is a variable that is visible.
type variable struct {
	name  string
	value api.Value
}

// frame is an active call. What is not possible in a program ends the run with RunNone.
type frame struct {
	*run
	file    *file
	visible []variable
}

// variable returns the visible variable with this name.
func (x *frame) variable(name string) *variable {
	for i := len(x.visible) - 1; i >= 0; i-- {
		if x.visible[i].name == name {
			return &x.visible[i]
		}
	}
	panic(fault{api.RunNone})
}

// block executes statements. It returns the value and true if one of them returns.
func (x *frame) block(l []api.Stmt) (api.Value, bool) {
	x.enter()
	outer := len(x.visible)
	for i := range l {
		if v, returned := x.stmt(&l[i]); returned {
			return v, true
		}
	}
	x.visible = x.visible[:outer]
	x.nesting--
	return api.Value{}, false
}

// stmt executes a statement in the same way.
func (x *frame) stmt(s *api.Stmt) (api.Value, bool) {
	if len(s.Expr) != 1 {
		panic(fault{api.RunNone})
	}
	if s.Kind == api.StWhile {
		return x.loop(s)
	}
	x.tick()
	v := x.expr(&s.Expr[0])
	switch s.Kind {
	case api.StLet:
		x.visible = append(x.visible, variable{name: s.Name, value: v})
	case api.StAssign:
		x.variable(s.Name).value = v
	case api.StIf:
		if v.Num != 0 {
			return x.block(s.Body)
		}
		return x.block(s.Else)
	case api.StReturn:
		return v, true
	}
	return api.Value{}, false
}

func (x *frame) loop(s *api.Stmt) (api.Value, bool) {
	for {
		x.tick()
		if x.expr(&s.Expr[0]).Num == 0 {
			return api.Value{}, false
		}
		if v, returned := x.block(s.Body); returned {
			return v, true
		}
	}
}

// expr evaluates an expression.
func (x *frame) expr(e *api.Expr) api.Value {
	x.enter()
	v := x.value(e)
	x.nesting--
	return v
}

func (x *frame) value(e *api.Expr) api.Value {
	switch e.Kind {
	case api.ExInt:
		return api.Value{Type: api.Int, Num: e.Num}
	case api.ExBool:
		return api.Value{Type: api.Bool, Num: e.Num}
	case api.ExName:
		return x.variable(e.Name).value
	case api.ExBin:
		if len(e.Args) == 2 && (e.Op == api.OpOr || e.Op == api.OpAnd) {
			return x.decide(e)
		}
	}
	args := make([]api.Value, 0, len(e.Args))
	for i := range e.Args {
		args = append(args, x.expr(&e.Args[i]))
	}
	if e.Kind == api.ExCall {
		return x.invoke(e, args)
	}
	return x.operation(e, args)
}

// decide evaluates OpOr and OpAnd, which need the second operand only if the first one does not decide.
func (x *frame) decide(e *api.Expr) api.Value {
	v := x.expr(&e.Args[0])
	if (v.Num != 0) == (e.Op == api.OpOr) {
		return v
	}
	return x.expr(&e.Args[1])
}

func (x *frame) invoke(e *api.Expr, args []api.Value) api.Value {
	f := x.file.own.funcs[e.Name]
	if e.Pack != "" {
		dir, ok := x.file.imports[e.Pack]
		if !ok {
			panic(fault{api.RunNone})
		}
		f = x.find(dir, e.Name)
	}
	if f == nil || len(f.Params) != len(args) {
		panic(fault{api.RunNone})
	}
	nesting := x.nesting
	v := x.call(f, args)
	x.nesting = nesting // the blocks in which a call returns are not left one by one
	return v
}

// operation applies an operation to its arguments.
func (x *frame) operation(e *api.Expr, v []api.Value) api.Value {
	switch {
	case e.Kind == api.ExList:
		var l []int64
		for _, a := range v {
			l = append(l, a.Num)
		}
		return x.list(l)
	case e.Kind == api.ExUnary && len(v) == 1:
		if e.Op == api.OpNot {
			return truth(v[0].Num == 0)
		}
		return api.Value{Type: api.Int, Num: -v[0].Num}
	case e.Kind == api.ExBin && len(v) == 2:
		return binary(e.Op, v[0].Num, v[1].Num)
	case e.Kind == api.ExIndex && len(v) == 2:
		return api.Value{Type: api.Int, Num: v[0].List[index(v[0].List, v[1].Num)]}
	case e.Kind == api.ExLen && len(v) == 1:
		return api.Value{Type: api.Int, Num: int64(len(v[0].List))}
	case e.Kind == api.ExPush && len(v) == 2:
		l := v[0].List
		return x.list(append(l[:len(l):len(l)], v[1].Num))
	case e.Kind == api.ExSet && len(v) == 3:
		i := index(v[0].List, v[1].Num)
		l := slices.Clone(v[0].List)
		l[i] = v[2].Num
		return x.list(l)
	}
	panic(fault{api.RunNone})
}

// index returns an index that must be in the range of a list.
func index(l []int64, i int64) int {
	if i < 0 || i >= int64(len(l)) {
		panic(fault{api.RunIndex})
	}
	return int(i)
}

func truth(b bool) api.Value {
	if b {
		return api.Value{Type: api.Bool, Num: 1}
	}
	return api.Value{Type: api.Bool}
}

// binary applies an operator that always needs both operands.
func binary(op int, a, b int64) api.Value {
	switch op {
	case api.OpEq:
		return truth(a == b)
	case api.OpNe:
		return truth(a != b)
	case api.OpLt:
		return truth(a < b)
	case api.OpLe:
		return truth(a <= b)
	case api.OpGt:
		return truth(a > b)
	case api.OpGe:
		return truth(a >= b)
	}
	if (op == api.OpDiv || op == api.OpRem) && b == 0 {
		panic(fault{api.RunZero})
	}
	n := int64(0)
	switch op {
	case api.OpAdd:
		n = a + b
	case api.OpSub:
		n = a - b
	case api.OpMul:
		n = a * b
	case api.OpDiv:
		n = a / b
	case api.OpRem:
		n = a % b
	default:
		panic(fault{api.RunNone})
	}
	return api.Value{Type: api.Int, Num: n}
}
