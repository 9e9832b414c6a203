package bytecode

import "classroom/api"

// The types of a stack are kept as runs of equal types, which share what is below them; so the work for an instruction
// does not depend on the height of the stack. Equal stacks have the same index in runs.
type run struct {
	kind, count int
	below       int // the index of the runs below, whose first one has another type
}

// empty is the index of the empty stack.
const empty = 0

// flower follows the flow of a function.
type flower struct {
	program api.Program
	code    *api.Code
	runs    []run
	heights []int // the heights of the stacks
	index   map[run]int
	before  []int // the stack before each instruction, or -1
	todo    []int // instructions whose stack is known, but not yet what is after them
}

// flow returns the greatest height of the stack of function f, and whether the function is well-formed.
func flow(p api.Program, f int) (int, bool) {
	x := &flower{program: p, code: &p.Funcs[f], runs: []run{{}}, heights: []int{0}, index: map[run]int{{}: empty}}
	x.before = make([]int, len(x.code.Ins))
	for i := range x.before {
		x.before[i] = -1
	}
	x.reach(0, empty)
	for len(x.todo) > 0 {
		at := x.todo[len(x.todo)-1]
		x.todo = x.todo[:len(x.todo)-1]
		if !x.step(at) {
			return 0, false
		}
	}
	height := 0
	for _, h := range x.heights {
		height = max(height, h)
	}
	return height, true
}

// reach records that instruction i can be reached with a stack, and reports whether this is possible.
func (x *flower) reach(i, stack int) bool {
	if i < 0 || i >= len(x.before) {
		return false
	}
	if x.before[i] >= 0 {
		return x.before[i] == stack
	}
	x.before[i] = stack
	x.todo = append(x.todo, i)
	return true
}

// intern returns the index of a stack.
func (x *flower) intern(r run) int {
	i, ok := x.index[r]
	if !ok {
		i = len(x.runs)
		x.index[r] = i
		x.runs = append(x.runs, r)
		x.heights = append(x.heights, x.heights[r.below]+r.count)
	}
	return i
}

// push returns a stack with a further value.
func (x *flower) push(stack, kind int) int {
	r := x.runs[stack]
	if stack != empty && r.kind == kind {
		r.count++
		return x.intern(r)
	}
	return x.intern(run{kind: kind, count: 1, below: stack})
}

// top returns the type of the topmost value, or 0.
func (x *flower) top(stack int) int { return x.runs[stack].kind }

// pop returns a stack without its n topmost values, which must have this type.
func (x *flower) pop(stack, kind, n int) (int, bool) {
	if n == 0 {
		return stack, true
	}
	r := x.runs[stack]
	if stack == empty || r.kind != kind || r.count < n {
		return 0, false
	}
	if r.count == n {
		return r.below, true
	}
	r.count -= n
	return x.intern(r), true
}

// popAll pops values of several types; the last one is the topmost.
func (x *flower) popAll(stack int, kinds []int) (int, bool) {
	for i := len(kinds) - 1; i >= 0; i-- {
		var ok bool
		if stack, ok = x.pop(stack, kinds[i], 1); !ok {
			return 0, false
		}
	}
	return stack, true
}

// step follows an instruction that can be reached, and reports whether it is well-formed.
func (x *flower) step(at int) bool {
	in, stack := x.code.Ins[at], x.before[at]
	switch in.Op {
	case api.InReturn:
		rest, ok := x.pop(stack, x.code.Result, 1)
		return ok && rest == empty
	case api.InJump:
		return x.reach(in.N, stack)
	case api.InFalse, api.InTrue:
		rest, ok := x.pop(stack, api.Bool, 1)
		return ok && x.reach(in.N, rest) && x.reach(at+1, rest)
	case api.InTick:
		return x.reach(at+1, stack)
	case api.InPop:
		rest, ok := x.pop(stack, x.top(stack), 1)
		return ok && x.reach(at+1, rest)
	case api.InList:
		if in.N < 0 {
			return false
		}
		rest, ok := x.pop(stack, api.Int, in.N)
		return ok && x.reach(at+1, x.push(rest, api.List))
	}
	pops, pushes, ok := x.effect(in, x.top(stack))
	if !ok {
		return false
	}
	rest, ok := x.popAll(stack, pops)
	if !ok {
		return false
	}
	if pushes != 0 {
		rest = x.push(rest, pushes)
	}
	return x.reach(at+1, rest)
}

// effect returns the types that an instruction pops and the one that it pushes (0 if it pushes nothing), and whether
// its condition holds. The type of the topmost value decides for operators that have several types.
func (x *flower) effect(in api.Instr, top int) ([]int, int, bool) {
	c := x.code
	switch in.Op {
	case api.InConst:
		return nil, api.Int, true
	case api.InBool:
		return nil, api.Bool, in.N == 0 || in.N == 1
	case api.InLoad, api.InStore:
		if in.N < 0 || in.N >= len(c.Locals) {
			return nil, 0, false
		}
		if in.Op == api.InLoad {
			return nil, c.Locals[in.N], true
		}
		return c.Locals[in.N : in.N+1], 0, true
	case api.InIndex:
		return []int{api.List, api.Int}, api.Int, true
	case api.InLen:
		return []int{api.List}, api.Int, true
	case api.InPush:
		return []int{api.List, api.Int}, api.List, true
	case api.InSet:
		return []int{api.List, api.Int, api.Int}, api.List, true
	case api.InUnary:
		if in.N == api.OpNot {
			return []int{api.Bool}, api.Bool, true
		}
		return []int{api.Int}, api.Int, in.N == api.OpNeg
	case api.InBin:
		return binary(in.N, top)
	case api.InCall:
		if in.N < 0 || in.N >= len(x.program.Funcs) {
			return nil, 0, false
		}
		f := &x.program.Funcs[in.N]
		return f.Params, f.Result, true
	}
	return nil, 0, false
}

// binary is effect for an operator with two operands.
func binary(op, top int) ([]int, int, bool) {
	switch {
	case op == api.OpEq || op == api.OpNe:
		if top == api.Bool {
			return []int{api.Bool, api.Bool}, api.Bool, true
		}
		return []int{api.Int, api.Int}, api.Bool, true
	case op >= api.OpLt && op <= api.OpGe:
		return []int{api.Int, api.Int}, api.Bool, true
	case op >= api.OpAdd && op <= api.OpRem:
		return []int{api.Int, api.Int}, api.Int, true
	}
	return nil, 0, false
}
