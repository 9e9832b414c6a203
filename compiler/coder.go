package compiler

import (
	"classroom/api"
	"classroom/checker"
)

// variable is a variable that is visible, and its number.
type variable struct {
	name   string
	number int
}

// coder generates the code of a function that the checker has accepted.
type coder struct {
	*unit
	imports map[string]string
	code    api.Code
	visible []variable
}

func (c *coder) emit(op, n int) {
	c.code.Ins = append(c.code.Ins, api.Instr{Op: op, N: n})
}

// here returns the index of the next instruction.
func (c *coder) here() int { return len(c.code.Ins) }

// land makes the jump at an index go to the next instruction. It may be behind the end where a jump is not reachable.
func (c *coder) land(at int) { c.code.Ins[at].N = c.here() }

// declare adds a variable; each one has a number of its own, as its type does not change.
func (c *coder) declare(name string, kind int) int {
	n := len(c.code.Locals)
	c.code.Locals = append(c.code.Locals, kind)
	c.visible = append(c.visible, variable{name: name, number: n})
	return n
}

// number returns the number of a visible variable.
func (c *coder) number(name string) int {
	for i := len(c.visible) - 1; i >= 0; i-- {
		if c.visible[i].name == name {
			return c.visible[i].number
		}
	}
	return 0
}

func (c *coder) block(l []api.Stmt) {
	outer := len(c.visible)
	for _, s := range l {
		c.stmt(s)
	}
	c.visible = c.visible[:outer]
}

func (c *coder) stmt(s api.Stmt) {
	begin := c.here()
	e := s.Expr[0]
	c.emit(api.InTick, 0)
	c.expr(e)
	switch s.Kind {
	case api.StLet:
		kind := c.kind(e)
		c.emit(api.InStore, c.declare(s.Name, kind))
	case api.StAssign:
		c.emit(api.InStore, c.number(s.Name))
	case api.StIf:
		c.branch(s)
	case api.StWhile:
		leave := c.here()
		c.emit(api.InFalse, 0)
		c.block(s.Body)
		c.emit(api.InJump, begin)
		c.land(leave)
	case api.StReturn:
		c.emit(api.InReturn, 0)
	case api.StCall:
		c.emit(api.InPop, 0)
	}
}

// branch generates what follows the condition.
func (c *coder) branch(s api.Stmt) {
	other := c.here()
	c.emit(api.InFalse, 0)
	c.block(s.Body)
	if len(s.Else) == 0 {
		c.land(other)
		return
	}
	end := c.here()
	c.emit(api.InJump, 0)
	c.land(other)
	c.block(s.Else)
	c.land(end)
}

// expr generates code that pushes the value of an expression.
func (c *coder) expr(e api.Expr) {
	if e.Kind == api.ExBin && (e.Op == api.OpOr || e.Op == api.OpAnd) {
		c.decide(e)
		return
	}
	for _, a := range e.Args {
		c.expr(a)
	}
	switch e.Kind {
	case api.ExInt:
		c.emit(api.InConst, int(e.Num))
	case api.ExBool:
		c.emit(api.InBool, int(e.Num))
	case api.ExName:
		c.emit(api.InLoad, c.number(e.Name))
	case api.ExList:
		c.emit(api.InList, len(e.Args))
	case api.ExUnary:
		c.emit(api.InUnary, e.Op)
	case api.ExBin:
		c.emit(api.InBin, e.Op)
	case api.ExCall:
		dir := c.dir
		if e.Pack != "" {
			dir = c.imports[e.Pack]
		}
		c.emit(api.InCall, c.operand(fullName(dir, e.Name)))
	case api.ExIndex:
		c.emit(api.InIndex, 0)
	case api.ExLen:
		c.emit(api.InLen, 0)
	case api.ExPush:
		c.emit(api.InPush, 0)
	case api.ExSet:
		c.emit(api.InSet, 0)
	}
}

// decide generates OpOr and OpAnd, which need the second operand only if the first one does not decide.
func (c *coder) decide(e api.Expr) {
	jump, value := api.InFalse, 0
	if e.Op == api.OpOr {
		jump, value = api.InTrue, 1
	}
	c.expr(e.Args[0])
	decided := c.here()
	c.emit(jump, 0)
	c.expr(e.Args[1])
	end := c.here()
	c.emit(api.InJump, 0)
	c.land(decided)
	c.emit(api.InBool, value)
	c.land(end)
}

// kind returns the type of an expression.
func (c *coder) kind(e api.Expr) int {
	switch e.Kind {
	case api.ExBool:
		return api.Bool
	case api.ExName:
		return c.code.Locals[c.number(e.Name)]
	case api.ExList, api.ExPush, api.ExSet:
		return api.List
	case api.ExUnary:
		if e.Op == api.OpNot {
			return api.Bool
		}
	case api.ExBin:
		if e.Op <= api.OpGe {
			return api.Bool
		}
	case api.ExCall:
		return c.result(e)
	}
	return api.Int
}

// result returns the type of the result of a call.
func (c *coder) result(e api.Expr) int {
	if e.Pack == "" {
		s, _ := checker.Find(c.face, e.Name)
		return s.Result
	}
	for _, f := range c.faces {
		if f.Dir == c.imports[e.Pack] {
			s, _ := checker.Find(f, e.Name)
			return s.Result
		}
	}
	return api.Int
}
