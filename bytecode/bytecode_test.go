package bytecode_test

import (
	"fmt"
	"math/rand"
	"testing"
	"time"

	"classroom/api"
	"classroom/bytecode"
)

// in makes instructions of operations and operands in turn.
func in(l ...int) []api.Instr {
	var s []api.Instr
	for i := 0; i+1 < len(l); i += 2 {
		s = append(s, api.Instr{Op: l[i], N: l[i+1]})
	}
	return s
}

// all has a parameter of each type, and further variables.
func all(result int, ins []api.Instr) api.Code {
	return api.Code{Name: "m.f", Params: []int{api.Int, api.Bool, api.List}, Result: result, Locals: []int{api.Int, api.Bool, api.List, api.Int}, Ins: ins}
}

func one(c api.Code) api.Program { return api.Program{Funcs: []api.Code{c}} }

// with returns a program in which function 1 is called.
func with(c api.Code) api.Program {
	return api.Program{Funcs: []api.Code{c, {Name: "m.g", Params: []int{api.Int, api.List}, Result: api.Bool, Locals: []int{api.Int, api.List}, Ins: in(api.InBool, 0, api.InReturn, 0)}}}
}

func TestP14_1_Funcs(t *testing.T) {
	ret := in(api.InConst, 1, api.InReturn, 0)
	good := api.Code{Name: "a", Result: api.Int, Ins: ret}
	ints := func(n int) []int {
		l := make([]int, n)
		for i := range l {
			l[i] = api.Int
		}
		return l
	}
	change := func(f func(c *api.Code)) api.Code {
		c := good
		f(&c)
		return c
	}
	bad := api.Code{Name: "bad", Result: api.Int, Ins: in(api.InReturn, 0)}
	for i, x := range []struct {
		l    []api.Code
		want api.Errno
	}{
		{nil, api.OK}, {[]api.Code{good}, api.OK}, {[]api.Code{good, change(func(c *api.Code) { c.Name = "" })}, api.OK},
		{[]api.Code{good, good}, api.ErrTwice}, {[]api.Code{good, change(func(c *api.Code) { c.Result = 0 })}, api.ErrTwice}, {[]api.Code{bad, good, good}, api.ErrTwice}, {[]api.Code{bad, good}, api.ErrCode},
		{[]api.Code{change(func(c *api.Code) { c.Params, c.Locals = ints(8), ints(72) })}, api.OK}, {[]api.Code{change(func(c *api.Code) { c.Params, c.Locals = ints(9), ints(9) })}, api.ErrLong}, {[]api.Code{change(func(c *api.Code) { c.Locals = ints(73) })}, api.ErrLong}, {[]api.Code{change(func(c *api.Code) { c.Locals, c.Result = ints(73), 0 })}, api.ErrLong},
		{[]api.Code{change(func(c *api.Code) { c.Result = 4 })}, api.ErrType}, {[]api.Code{change(func(c *api.Code) { c.Result = -1 })}, api.ErrType}, {[]api.Code{change(func(c *api.Code) { c.Params, c.Locals = []int{0}, []int{0} })}, api.ErrType}, {[]api.Code{change(func(c *api.Code) { c.Locals = []int{4} })}, api.ErrType}, {[]api.Code{change(func(c *api.Code) { c.Params, c.Locals = []int{1}, []int{2} })}, api.ErrType}, {[]api.Code{change(func(c *api.Code) { c.Params = []int{1} })}, api.ErrType}, {[]api.Code{change(func(c *api.Code) { c.Params, c.Locals = []int{1, 2}, []int{1} })}, api.ErrType}, {[]api.Code{change(func(c *api.Code) { c.Params, c.Locals = []int{1, 2}, []int{1, 2, 3} })}, api.OK}, {[]api.Code{change(func(c *api.Code) { c.Result, c.Ins = 0, nil })}, api.ErrType},
		{[]api.Code{change(func(c *api.Code) { c.Ins = nil })}, api.ErrEmpty}, {[]api.Code{change(func(c *api.Code) { c.Ins = nil }), good, good}, api.ErrEmpty}, {[]api.Code{good, good, change(func(c *api.Code) { c.Ins = nil })}, api.ErrTwice},
	} {
		if e := bytecode.Check(api.Program{Funcs: x.l}); e != x.want {
			t.Errorf("Check %d: %d, want %d", i, e, x.want)
		}
	}
	long := make([]api.Instr, api.MaxCode)
	for i := range long {
		long[i] = api.Instr{Op: api.InTick}
	}
	long[api.MaxCode-2], long[api.MaxCode-1] = ret[0], ret[1]
	if e := bytecode.Check(one(api.Code{Result: 1, Ins: long})); e != api.OK {
		t.Errorf("MaxCode instructions: %d", e)
	}
	if e := bytecode.Check(api.Program{Funcs: []api.Code{{Result: 0, Ins: long}, {Ins: ret[:1]}}}); e != api.ErrLong {
		t.Errorf("more than MaxCode instructions: %d", e)
	}
	if e := bytecode.Check(api.Program{Funcs: make([]api.Code, api.MaxCode+1)}); e != api.ErrLong {
		t.Errorf("more than MaxCode functions: %d", e)
	}
	if e := bytecode.Check(api.Program{Funcs: make([]api.Code, api.MaxCode)}); e != api.ErrType {
		t.Errorf("MaxCode functions: %d", e)
	}
}

func TestP14_1_WellFormed(t *testing.T) {
	const I, B, L = api.Int, api.Bool, api.List
	for i, x := range []struct {
		result int
		ins    []api.Instr
		height int
	}{
		{I, in(api.InConst, 1, api.InReturn, 0), 1}, {I, in(api.InConst, -1<<63, api.InReturn, 99), 1}, {B, in(api.InBool, 0, api.InReturn, 0), 1}, {B, in(api.InBool, 1, api.InReturn, 0), 1}, {I, in(api.InLoad, 0, api.InReturn, 0), 1}, {B, in(api.InLoad, 1, api.InReturn, 0), 1}, {L, in(api.InLoad, 2, api.InReturn, 0), 1}, {I, in(api.InLoad, 3, api.InReturn, 0), 1},
		{I, in(api.InConst, 1, api.InStore, 3, api.InLoad, 3, api.InReturn, 0), 1}, {B, in(api.InLoad, 1, api.InStore, 1, api.InLoad, 1, api.InReturn, 0), 1}, {L, in(api.InLoad, 2, api.InStore, 2, api.InLoad, 2, api.InReturn, 0), 1},
		{L, in(api.InList, 0, api.InReturn, 0), 1}, {L, in(api.InConst, 1, api.InConst, 2, api.InConst, 3, api.InList, 3, api.InReturn, 0), 3}, {L, in(api.InConst, 1, api.InConst, 2, api.InList, 1, api.InStore, 2, api.InList, 1, api.InReturn, 0), 2}, {I, in(api.InLoad, 2, api.InConst, 1, api.InIndex, 0, api.InReturn, 0), 2}, {I, in(api.InLoad, 2, api.InLen, 0, api.InReturn, 0), 1}, {L, in(api.InLoad, 2, api.InConst, 1, api.InPush, 0, api.InReturn, 0), 2}, {L, in(api.InLoad, 2, api.InConst, 1, api.InConst, 1, api.InSet, 0, api.InReturn, 0), 3},
		{B, in(api.InLoad, 1, api.InUnary, api.OpNot, api.InReturn, 0), 1}, {I, in(api.InLoad, 0, api.InUnary, api.OpNeg, api.InReturn, 0), 1}, {B, in(api.InLoad, 1, api.InLoad, 1, api.InBin, api.OpEq, api.InReturn, 0), 2}, {B, in(api.InLoad, 0, api.InLoad, 0, api.InBin, api.OpNe, api.InReturn, 0), 2},
		{I, in(api.InJump, 0), 0}, {B, in(api.InJump, 0), 0}, {I, in(api.InTick, 5, api.InJump, 0), 0}, {I, in(api.InJump, 2, 99, 99, api.InConst, 1, api.InReturn, 0), 1}, {I, in(api.InConst, 1, api.InReturn, 0, api.InPop, 0, api.InJump, 77), 1}, {I, in(api.InConst, 1, api.InLoad, 1, api.InFalse, 4, api.InTick, 0, api.InReturn, 0), 2}, {I, in(api.InConst, 1, api.InLoad, 1, api.InTrue, 4, api.InJump, 4, api.InReturn, 0), 2}, {I, in(api.InConst, 1, api.InConst, 2, api.InPop, 0, api.InReturn, 0), 2}, {I, in(api.InConst, 1, api.InLoad, 2, api.InPop, 0, api.InLoad, 1, api.InPop, 0, api.InReturn, 0), 2},
		{B, in(api.InLoad, 0, api.InLoad, 2, api.InCall, 1, api.InReturn, 0), 2}, {I, in(api.InLoad, 0, api.InLoad, 1, api.InLoad, 2, api.InCall, 0, api.InReturn, 0), 3}, {I, in(api.InLoad, 1, api.InFalse, 0, api.InJump, 0), 1},
	} {
		p := with(all(x.result, x.ins))
		if e := bytecode.Check(p); e != api.OK {
			t.Errorf("code %d: %d", i, e)
		}
		if h := bytecode.Height(p, 0); h != x.height {
			t.Errorf("code %d: the height %d, want %d", i, h, x.height)
		}
	}
	for op := api.OpLt; op <= api.OpRem; op++ {
		result := B
		if op >= api.OpAdd {
			result = I
		}
		for _, r := range []int{I, B, L} {
			if e := bytecode.Check(one(all(r, in(api.InLoad, 0, api.InLoad, 3, api.InBin, op, api.InReturn, 0)))); (e == api.OK) != (r == result) {
				t.Errorf("the operator %d with the result %d: %d", op, r, e)
			}
		}
	}
}

func TestP14_1_NotWellFormed(t *testing.T) {
	const I, B, L = api.Int, api.Bool, api.List
	for i, x := range []struct {
		result int
		ins    []api.Instr
	}{
		{I, in(api.InConst, 1)}, {I, in(api.InTick, 0)}, {I, in(api.InReturn, 0)}, {I, in(api.InBool, 1, api.InReturn, 0)}, {I, in(api.InConst, 1, api.InConst, 1, api.InReturn, 0)}, {I, in(api.InList, 0, api.InConst, 1, api.InReturn, 0)}, {B, in(api.InBool, 2, api.InReturn, 0)}, {B, in(api.InBool, -1, api.InReturn, 0)}, {I, in(api.InLoad, 4, api.InReturn, 0)}, {I, in(api.InLoad, -1, api.InReturn, 0)}, {I, in(api.InConst, 1, api.InStore, 4, api.InJump, 0)}, {I, in(api.InConst, 1, api.InStore, -1, api.InJump, 0)}, {I, in(api.InConst, 1, api.InStore, 1, api.InJump, 0)}, {I, in(api.InStore, 0, api.InJump, 0)},
		{L, in(api.InList, -1, api.InReturn, 0)}, {L, in(api.InList, 1, api.InReturn, 0)}, {L, in(api.InBool, 1, api.InList, 1, api.InReturn, 0)}, {L, in(api.InBool, 1, api.InConst, 1, api.InList, 2, api.InReturn, 0)}, {L, in(api.InConst, 1, api.InBool, 1, api.InList, 2, api.InReturn, 0)}, {L, in(api.InConst, 1, api.InConst, 1, api.InList, 1, api.InReturn, 0)}, {L, in(api.InList, 1<<62, api.InReturn, 0)}, {I, in(api.InConst, 1, api.InLoad, 2, api.InIndex, 0, api.InReturn, 0)}, {I, in(api.InLoad, 2, api.InIndex, 0, api.InReturn, 0)}, {I, in(api.InLoad, 2, api.InLoad, 1, api.InIndex, 0, api.InReturn, 0)}, {I, in(api.InConst, 1, api.InLen, 0, api.InReturn, 0)}, {L, in(api.InConst, 1, api.InLoad, 2, api.InPush, 0, api.InReturn, 0)}, {L, in(api.InLoad, 2, api.InLoad, 1, api.InPush, 0, api.InReturn, 0)}, {L, in(api.InLoad, 2, api.InConst, 1, api.InSet, 0, api.InReturn, 0)}, {L, in(api.InLoad, 2, api.InConst, 1, api.InBool, 1, api.InSet, 0, api.InReturn, 0)}, {L, in(api.InLoad, 2, api.InBool, 1, api.InConst, 1, api.InSet, 0, api.InReturn, 0)},
		{I, in(api.InConst, 1, api.InUnary, api.OpNot, api.InReturn, 0)}, {B, in(api.InBool, 1, api.InUnary, api.OpNeg, api.InReturn, 0)}, {I, in(api.InConst, 1, api.InUnary, api.OpSub, api.InReturn, 0)}, {I, in(api.InConst, 1, api.InUnary, 0, api.InReturn, 0)}, {B, in(api.InBool, 1, api.InConst, 1, api.InBin, api.OpEq, api.InReturn, 0)}, {B, in(api.InConst, 1, api.InBool, 1, api.InBin, api.OpNe, api.InReturn, 0)}, {B, in(api.InLoad, 2, api.InLoad, 2, api.InBin, api.OpEq, api.InReturn, 0)}, {B, in(api.InConst, 1, api.InBin, api.OpEq, api.InReturn, 0)}, {B, in(api.InBool, 1, api.InBool, 1, api.InBin, api.OpAnd, api.InReturn, 0)}, {B, in(api.InBool, 1, api.InBool, 1, api.InBin, api.OpOr, api.InReturn, 0)}, {I, in(api.InConst, 1, api.InConst, 1, api.InBin, 0, api.InReturn, 0)}, {I, in(api.InConst, 1, api.InConst, 1, api.InBin, api.OpNot, api.InReturn, 0)}, {B, in(api.InBool, 1, api.InBool, 1, api.InBin, api.OpLt, api.InReturn, 0)}, {I, in(api.InBool, 1, api.InBool, 1, api.InBin, api.OpAdd, api.InReturn, 0)}, {I, in(api.InBool, 1, api.InConst, 1, api.InBin, api.OpAdd, api.InReturn, 0)},
		{I, in(api.InJump, 1)}, {I, in(api.InJump, -1)}, {I, in(api.InLoad, 1, api.InFalse, 2)}, {I, in(api.InLoad, 1, api.InFalse, -1, api.InJump, 0)}, {I, in(api.InLoad, 1, api.InTrue, 3, api.InJump, 0)}, {I, in(api.InConst, 1, api.InFalse, 0, api.InJump, 0)}, {I, in(api.InFalse, 0, api.InJump, 0)}, {I, in(api.InConst, 1, api.InJump, 0)}, {I, in(api.InLoad, 1, api.InFalse, 3, api.InConst, 1, api.InConst, 2, api.InReturn, 0)}, {I, in(api.InLoad, 1, api.InTrue, 4, api.InConst, 1, api.InJump, 5, api.InBool, 1, api.InReturn, 0)}, {I, in(api.InPop, 0, api.InJump, 0)}, {I, in(0, 0, api.InJump, 0)}, {I, in(19, 0, api.InJump, 0)}, {I, in(-1, 0, api.InJump, 0)},
		{B, in(api.InCall, 1, api.InReturn, 0)}, {B, in(api.InLoad, 2, api.InLoad, 0, api.InCall, 1, api.InReturn, 0)}, {I, in(api.InLoad, 0, api.InLoad, 2, api.InCall, 1, api.InReturn, 0)}, {B, in(api.InLoad, 0, api.InLoad, 2, api.InCall, 2, api.InReturn, 0)}, {B, in(api.InLoad, 0, api.InLoad, 2, api.InCall, -1, api.InReturn, 0)}, {I, in(api.InLoad, 1, api.InTrue, 0)},
		// A condition that does not hold is an error even if what follows would fit.
		{I, in(api.InLoad, 4, api.InConst, 1, api.InReturn, 0)}, {I, in(api.InLoad, 4, api.InPop, 0, api.InConst, 1, api.InReturn, 0)}, {I, in(api.InLoad, -1, api.InPop, 0, api.InConst, 1, api.InReturn, 0)}, {I, in(api.InStore, 4, api.InConst, 1, api.InReturn, 0)}, {I, in(api.InConst, 1, api.InStore, 4, api.InConst, 1, api.InReturn, 0)}, {I, in(api.InCall, 2, api.InConst, 1, api.InReturn, 0)}, {I, in(api.InCall, -1, api.InPop, 0, api.InConst, 1, api.InReturn, 0)}, {I, in(api.InBin, 0, api.InConst, 1, api.InReturn, 0)}, {I, in(api.InConst, 1, api.InConst, 1, api.InBin, api.OpAnd, api.InPop, 0, api.InConst, 1, api.InReturn, 0)}, {I, in(0, 0, api.InConst, 1, api.InReturn, 0)}, {I, in(19, 0, api.InConst, 1, api.InReturn, 0)}, {I, in(api.InUnary, 0, api.InConst, 1, api.InReturn, 0)}, {I, in(api.InBool, 2, api.InPop, 0, api.InConst, 1, api.InReturn, 0)},
		{L, in(api.InConst, 1, api.InList, -1, api.InStore, 2, api.InPop, 0, api.InPop, 0, api.InLoad, 2, api.InReturn, 0)}, {L, in(api.InConst, 1, api.InList, -1, api.InStore, 2, api.InPop, 0, api.InLoad, 2, api.InReturn, 0)}, {I, in(api.InLoad, 1, api.InFalse, 4, api.InConst, 1, api.InReturn, 0)}, {I, in(api.InConst, 1, api.InReturn, 0, api.InJump, 0)[:1]},
	} {
		p := with(all(x.result, x.ins))
		if e := bytecode.Check(p); e != api.ErrCode {
			t.Errorf("code %d: %d", i, e)
		}
		if h := bytecode.Height(p, 0); h != -1 {
			t.Errorf("code %d: the height %d", i, h)
		}
	}
}

func TestP14_2_Height(t *testing.T) {
	p := with(all(api.Int, in(api.InConst, 1, api.InReturn, 0)))
	for f, want := range map[int]int{0: 1, 1: 1, 2: -1, -1: -1, 1 << 60: -1} {
		if h := bytecode.Height(p, f); h != want {
			t.Errorf("Height(%d): %d", f, h)
		}
	}
	p.Funcs[1].Ins = nil
	if h := bytecode.Height(p, 0); h != -1 {
		t.Errorf("the height in a bad program: %d", h)
	}
	if h := bytecode.Height(api.Program{}, 0); h != -1 {
		t.Errorf("the height in no program: %d", h)
	}
	// Only what is reachable counts.
	q := one(api.Code{Result: api.Int, Ins: in(api.InConst, 1, api.InReturn, 0, api.InConst, 1, api.InConst, 1, api.InConst, 1)})
	if h := bytecode.Height(q, 0); h != 1 {
		t.Errorf("the height with code that is not reachable: %d", h)
	}
}

// slow checks the flow of a function of a program that is otherwise right, with whole stacks.
func slow(p api.Program, f int) (int, bool) {
	c := p.Funcs[f]
	before := map[int][]int{0: {}}
	todo := []int{0}
	height := 0
	for len(todo) > 0 {
		at := todo[0]
		todo = todo[1:]
		s := append([]int{}, before[at]...)
		height = max(height, len(s))
		in := c.Ins[at]
		ok := true
		pop := func(kind int) {
			if len(s) == 0 || s[len(s)-1] != kind {
				ok = false
			} else {
				s = s[:len(s)-1]
			}
		}
		next := []int{at + 1}
		switch in.Op {
		case api.InConst:
			s = append(s, api.Int)
		case api.InBool:
			ok = in.N == 0 || in.N == 1
			s = append(s, api.Bool)
		case api.InPop:
			if len(s) == 0 {
				return 0, false
			}
			s = s[:len(s)-1]
		case api.InList:
			for range in.N {
				pop(api.Int)
			}
			s = append(s, api.List)
		case api.InIndex:
			pop(api.Int)
			pop(api.List)
			s = append(s, api.Int)
		case api.InJump:
			next = []int{in.N}
		case api.InFalse:
			pop(api.Bool)
			next = append(next, in.N)
		case api.InBin:
			pop(api.Int)
			pop(api.Int)
			s = append(s, api.Bool)
		case api.InReturn:
			pop(c.Result)
			if len(s) > 0 {
				ok = false
			}
			next = nil
		}
		if !ok {
			return 0, false
		}
		height = max(height, len(s))
		for _, n := range next {
			old, was := before[n]
			if n < 0 || n >= len(c.Ins) || was && fmt.Sprint(old) != fmt.Sprint(s) {
				return 0, false
			}
			if !was {
				before[n] = s
				todo = append(todo, n)
			}
		}
	}
	return height, true
}

func TestP14_1_Random(t *testing.T) {
	r := rand.New(rand.NewSource(14))
	good := 0
	for range 200000 {
		n := 1 + r.Intn(8)
		c := api.Code{Result: 1 + r.Intn(3)}
		for range n {
			switch r.Intn(10) {
			case 0, 1:
				c.Ins = append(c.Ins, api.Instr{Op: api.InConst})
			case 2:
				c.Ins = append(c.Ins, api.Instr{Op: api.InBool})
			case 3:
				c.Ins = append(c.Ins, api.Instr{Op: api.InPop})
			case 4:
				c.Ins = append(c.Ins, api.Instr{Op: api.InList, N: r.Intn(3)})
			case 5:
				c.Ins = append(c.Ins, api.Instr{Op: api.InIndex})
			case 6:
				c.Ins = append(c.Ins, api.Instr{Op: api.InJump, N: r.Intn(n)})
			case 7:
				c.Ins = append(c.Ins, api.Instr{Op: api.InFalse, N: r.Intn(n)})
			case 8:
				c.Ins = append(c.Ins, api.Instr{Op: api.InBin, N: api.OpLt})
			case 9:
				c.Ins = append(c.Ins, api.Instr{Op: api.InReturn})
			}
		}
		height, ok := slow(one(c), 0)
		if ok {
			good++
		} else {
			height = -1
		}
		if e := bytecode.Check(one(c)); (e == api.OK) != ok || !ok && e != api.ErrCode || bytecode.Height(one(c), 0) != height {
			t.Fatalf("%v: %d, %d; want %t, %d", c, e, bytecode.Height(one(c), 0), ok, height)
		}
	}
	if good < 500 {
		t.Errorf("only %d programs are well-formed", good)
	}
}

// High stacks that are looked at often must not take long.
func TestP14_1_HighStacks(t *testing.T) {
	begin := time.Now()
	const high, branches = 1 << 16, 1 << 14
	var l []api.Instr
	for range high {
		l = append(l, api.Instr{Op: api.InConst})
	}
	for i := range branches {
		l = append(l, api.Instr{Op: api.InBool}, api.Instr{Op: api.InFalse, N: high + 2*branches + 2 + 2*i})
	}
	l = append(l, in(api.InList, high, api.InReturn, 0)...)
	for range branches {
		l = append(l, in(api.InList, high, api.InReturn, 0)...)
	}
	p := one(api.Code{Result: api.List, Ins: l})
	if e := bytecode.Check(p); e != api.OK || bytecode.Height(p, 0) != high+1 {
		t.Errorf("%d", e)
	}
	if d := time.Since(begin); d > 20*time.Second {
		t.Errorf("it took %v", d)
	}
}
