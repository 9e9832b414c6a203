package vm_test

import (
	"math"
	"reflect"
	"testing"

	"classroom/api"
	"classroom/interp"
	"classroom/vm"
)

// in makes instructions of operations and operands in turn.
func in(l ...int) []api.Instr {
	var s []api.Instr
	for i := 0; i+1 < len(l); i += 2 {
		s = append(s, api.Instr{Op: l[i], N: l[i+1]})
	}
	return s
}

func code(name string, params []int, result int, more []int, ins []api.Instr) api.Code {
	return api.Code{Name: name, Params: params, Result: result, Locals: append(append([]int{}, params...), more...), Ins: ins}
}

func program(l ...api.Code) api.Program { return api.Program{Funcs: l} }

func num(n int64) api.Value { return api.Value{Type: api.Int, Num: n} }

func truth(n int64) api.Value { return api.Value{Type: api.Bool, Num: n} }

func list(l ...int64) api.Value { return api.Value{Type: api.List, List: l} }

var wide = api.Bounds{Fuel: 1000, Calls: 100, Heap: 1000}

// expect runs f and checks the result and the number of steps.
func expect(t *testing.T, p api.Program, args []api.Value, b api.Bounds, want api.Result, steps int) {
	t.Helper()
	got := vm.Run(p, "f", args, b)
	if got.End != want.End || !interp.Same(got.Value, want.Value) || got.Fuel != want.Fuel || got.Heap != want.Heap {
		t.Errorf("%+v, want %+v", got, want)
	}
	if got.End != api.RunDone && !reflect.DeepEqual(got.Value, api.Value{}) {
		t.Errorf("the value of a fault: %v", got.Value)
	}
	if n := vm.Steps(p, "f", args, b); n != steps {
		t.Errorf("%d steps, want %d", n, steps)
	}
}

func done(v api.Value, fuel, heap int) api.Result {
	return api.Result{Value: v, Fuel: fuel, Heap: heap}
}

func TestP16_1_Instructions(t *testing.T) {
	for i, x := range []struct {
		result int
		ins    []api.Instr
		want   api.Value
		heap   int
	}{
		{api.Int, in(api.InConst, -3, api.InReturn, 0), num(-3), 0}, {api.Bool, in(api.InBool, 1, api.InReturn, 0), truth(1), 0}, {api.Bool, in(api.InBool, 0, api.InReturn, 0), truth(0), 0},
		{api.Int, in(api.InLoad, 0, api.InReturn, 0), num(5), 0}, {api.Bool, in(api.InLoad, 1, api.InReturn, 0), truth(1), 0}, {api.List, in(api.InLoad, 2, api.InReturn, 0), list(7, 8), 0}, {api.Int, in(api.InLoad, 3, api.InReturn, 0), num(0), 0}, {api.Bool, in(api.InLoad, 4, api.InReturn, 0), truth(0), 0}, {api.List, in(api.InLoad, 5, api.InReturn, 0), list(), 0},
		{api.Int, in(api.InConst, 9, api.InStore, 3, api.InLoad, 3, api.InReturn, 0), num(9), 0}, {api.List, in(api.InLoad, 2, api.InStore, 5, api.InLoad, 5, api.InReturn, 0), list(7, 8), 0},
		{api.List, in(api.InList, 0, api.InReturn, 0), list(), 1}, {api.List, in(api.InConst, 1, api.InConst, 2, api.InConst, 3, api.InList, 3, api.InReturn, 0), list(1, 2, 3), 4}, {api.Int, in(api.InLoad, 2, api.InConst, 1, api.InIndex, 0, api.InReturn, 0), num(8), 0}, {api.Int, in(api.InLoad, 2, api.InLen, 0, api.InReturn, 0), num(2), 0}, {api.List, in(api.InLoad, 2, api.InConst, 1, api.InPush, 0, api.InReturn, 0), list(7, 8, 1), 4}, {api.List, in(api.InLoad, 2, api.InConst, 1, api.InConst, 4, api.InSet, 0, api.InReturn, 0), list(7, 4), 3},
		{api.Bool, in(api.InLoad, 1, api.InUnary, api.OpNot, api.InReturn, 0), truth(0), 0}, {api.Bool, in(api.InLoad, 4, api.InUnary, api.OpNot, api.InReturn, 0), truth(1), 0}, {api.Int, in(api.InLoad, 0, api.InUnary, api.OpNeg, api.InReturn, 0), num(-5), 0}, {api.Int, in(api.InConst, math.MinInt64, api.InUnary, api.OpNeg, api.InReturn, 0), num(math.MinInt64), 0},
		{api.Int, in(api.InConst, 1, api.InJump, 3, api.InPop, 0, api.InReturn, 0), num(1), 0}, {api.Int, in(api.InConst, 1, api.InConst, 2, api.InPop, 0, api.InReturn, 0), num(1), 0}, {api.Int, in(api.InLoad, 1, api.InFalse, 4, api.InConst, 1, api.InReturn, 0, api.InConst, 2, api.InReturn, 0), num(1), 0}, {api.Int, in(api.InLoad, 4, api.InFalse, 4, api.InConst, 1, api.InReturn, 0, api.InConst, 2, api.InReturn, 0), num(2), 0}, {api.Int, in(api.InLoad, 1, api.InTrue, 4, api.InConst, 1, api.InReturn, 0, api.InConst, 2, api.InReturn, 0), num(2), 0}, {api.Int, in(api.InLoad, 4, api.InTrue, 4, api.InConst, 1, api.InReturn, 0, api.InConst, 2, api.InReturn, 0), num(1), 0},
		{api.Int, in(api.InConst, 10, api.InLoad, 0, api.InCall, 1, api.InReturn, 0), num(5), 0}, {api.Int, in(api.InConst, 100, api.InConst, 1, api.InConst, 1, api.InList, 2, api.InLen, 0, api.InBin, api.OpSub, api.InReturn, 0), num(98), 3}, {api.Int, in(api.InConst, 100, api.InLoad, 2, api.InConst, 1, api.InConst, 4, api.InSet, 0, api.InConst, 1, api.InIndex, 0, api.InBin, api.OpSub, api.InReturn, 0), num(96), 3}, {api.Int, in(api.InConst, 100, api.InLoad, 2, api.InConst, 1, api.InPush, 0, api.InLen, 0, api.InBin, api.OpSub, api.InReturn, 0), num(97), 4},
		{api.Int, in(api.InConst, 100, api.InConst, 10, api.InLoad, 0, api.InCall, 1, api.InBin, api.OpSub, api.InReturn, 0), num(95), 0},
	} {
		p := program(code("f", []int{api.Int, api.Bool, api.List}, x.result, []int{api.Int, api.Bool, api.List}, x.ins), code("g", []int{api.Int, api.Int}, api.Int, nil, in(api.InLoad, 0, api.InLoad, 1, api.InBin, api.OpSub, api.InReturn, 0)))
		r := vm.Run(p, "f", []api.Value{num(5), truth(1), list(7, 8)}, wide)
		if r.End != api.RunDone || !interp.Same(r.Value, x.want) || r.Fuel != 0 || r.Heap != x.heap {
			t.Errorf("code %d: %+v, want %v", i, r, x.want)
		}
	}
}

func TestP16_1_Operators(t *testing.T) {
	const least = math.MinInt64
	for _, x := range []struct {
		op         int
		a, b, want int64
	}{
		{api.OpEq, 1, 1, 1}, {api.OpEq, 1, 2, 0}, {api.OpNe, 1, 1, 0}, {api.OpNe, 1, 2, 1}, {api.OpLt, 1, 2, 1}, {api.OpLt, 2, 2, 0}, {api.OpLt, 3, 2, 0}, {api.OpLe, 2, 2, 1}, {api.OpLe, 3, 2, 0}, {api.OpGt, 3, 2, 1}, {api.OpGt, 2, 2, 0}, {api.OpGe, 2, 2, 1}, {api.OpGe, 1, 2, 0}, {api.OpLt, -1, 0, 1},
		{api.OpAdd, 2, 3, 5}, {api.OpAdd, math.MaxInt64, 1, least}, {api.OpSub, 2, 3, -1}, {api.OpSub, least, 1, math.MaxInt64}, {api.OpMul, 2, 3, 6}, {api.OpMul, math.MaxInt64, 2, -2}, {api.OpDiv, 7, 2, 3}, {api.OpDiv, -7, 2, -3}, {api.OpDiv, 7, -2, -3}, {api.OpDiv, least, -1, least}, {api.OpRem, 7, 2, 1}, {api.OpRem, -7, 2, -1}, {api.OpRem, 7, -2, 1}, {api.OpRem, least, -1, 0},
	} {
		kind := api.Bool
		if x.op >= api.OpAdd {
			kind = api.Int
		}
		p := program(code("f", nil, kind, nil, in(api.InConst, int(x.a), api.InConst, int(x.b), api.InBin, x.op, api.InReturn, 0)))
		expect(t, p, nil, wide, done(api.Value{Type: kind, Num: x.want}, 0, 0), 4)
	}
	for _, x := range [][4]int64{{api.OpEq, 1, 1, 1}, {api.OpEq, 1, 0, 0}, {api.OpNe, 0, 1, 1}, {api.OpNe, 0, 0, 0}} {
		p := program(code("f", nil, api.Bool, nil, in(api.InBool, int(x[1]), api.InBool, int(x[2]), api.InBin, int(x[0]), api.InReturn, 0)))
		expect(t, p, nil, wide, done(truth(x[3]), 0, 0), 4)
	}
}

func TestP16_1_Faults(t *testing.T) {
	l := []int{api.List}
	two := []api.Value{list(7, 8)}
	for _, op := range []int{api.OpDiv, api.OpRem} {
		expect(t, program(code("f", nil, api.Int, nil, in(api.InConst, 1, api.InConst, 0, api.InBin, op, api.InReturn, 0))), nil, wide, api.Result{End: api.RunZero}, 3)
	}
	for _, i := range []int{-1, 2, math.MaxInt, math.MinInt} {
		expect(t, program(code("f", l, api.Int, nil, in(api.InTick, 0, api.InLoad, 0, api.InConst, i, api.InIndex, 0, api.InReturn, 0))), two, wide, api.Result{End: api.RunIndex, Fuel: 1}, 4)
		expect(t, program(code("f", l, api.List, nil, in(api.InLoad, 0, api.InConst, i, api.InConst, 1, api.InSet, 0, api.InReturn, 0))), two, api.Bounds{Fuel: 9, Calls: 1}, api.Result{End: api.RunIndex}, 4)
	}
	set := program(code("f", l, api.List, nil, in(api.InLoad, 0, api.InConst, 0, api.InConst, 1, api.InSet, 0, api.InReturn, 0)))
	expect(t, set, two, api.Bounds{Calls: 1, Heap: 2}, api.Result{End: api.RunHeap}, 4)
	expect(t, set, two, api.Bounds{Calls: 1, Heap: 3}, done(list(1, 8), 0, 3), 5)
	push := program(code("f", l, api.List, nil, in(api.InLoad, 0, api.InConst, 1, api.InPush, 0, api.InConst, 2, api.InPush, 0, api.InReturn, 0)))
	expect(t, push, two, api.Bounds{Calls: 1, Heap: 3}, api.Result{End: api.RunHeap}, 3)
	expect(t, push, two, api.Bounds{Calls: 1, Heap: 8}, api.Result{End: api.RunHeap, Heap: 4}, 5)
	expect(t, push, two, api.Bounds{Calls: 1, Heap: 9}, done(list(7, 8, 1, 2), 0, 9), 6)
	expect(t, program(code("f", nil, api.List, nil, in(api.InList, 0, api.InReturn, 0))), nil, api.Bounds{Calls: 1}, api.Result{End: api.RunHeap}, 1)
	tick := program(code("f", nil, api.Int, nil, in(api.InTick, 0, api.InConst, 7, api.InReturn, 0)))
	expect(t, tick, nil, api.Bounds{Fuel: 1, Calls: 1}, done(num(7), 1, 0), 3)
	expect(t, tick, nil, api.Bounds{Calls: 1}, api.Result{End: api.RunFuel}, 1)
	expect(t, tick, nil, api.Bounds{Fuel: 1}, api.Result{End: api.RunCalls}, 0)
	self := program(code("f", nil, api.Int, nil, in(api.InTick, 0, api.InCall, 0, api.InReturn, 0)))
	expect(t, self, nil, api.Bounds{Fuel: 99, Calls: 5}, api.Result{End: api.RunCalls, Fuel: 5}, 10)
	expect(t, self, nil, api.Bounds{Fuel: 3, Calls: 3}, api.Result{End: api.RunCalls, Fuel: 3}, 6)
	expect(t, self, nil, api.Bounds{Fuel: 3, Calls: 4}, api.Result{End: api.RunFuel, Fuel: 3}, 7)
	again := program(code("f", nil, api.Int, nil, in(api.InCall, 1, api.InPop, 0, api.InCall, 1, api.InReturn, 0)), code("g", nil, api.Int, nil, in(api.InConst, 3, api.InReturn, 0)))
	expect(t, again, nil, api.Bounds{Fuel: 9, Calls: 2}, done(num(3), 0, 0), 8)
	expect(t, again, nil, api.Bounds{Fuel: 9, Calls: 1}, api.Result{End: api.RunCalls}, 1)
}

func TestP16_1_Frames(t *testing.T) {
	// Each call has variables of its own, which are zero at its beginning, and a stack of its own.
	p := program(
		code("f", []int{api.Int}, api.List, []int{api.Int, api.List}, in(
			api.InConst, 5, api.InStore, 1, api.InConst, 100, api.InLoad, 0, api.InConst, 3, api.InCall, 1, api.InLoad, 0, api.InConst, 4, api.InCall, 1, api.InLoad, 1, api.InList, 4, api.InLoad, 2, api.InLen, 0, api.InPush, 0, api.InReturn, 0)),
		code("g", []int{api.Int, api.Int}, api.Int, []int{api.Int, api.List}, in(
			api.InLoad, 2, api.InLoad, 0, api.InBin, api.OpAdd, api.InStore, 2, api.InConst, 9, api.InList, 1, api.InStore, 3, api.InConst, 8, api.InStore, 0, api.InLoad, 2, api.InLoad, 1, api.InBin, api.OpMul, api.InReturn, 0)))
	expect(t, p, []api.Value{num(7)}, wide, done(list(100, 21, 28, 5, 0), 0, 2+2+5+6), 3+3+14+3+14-3+2+2+2+1)
	arg := list(1, 2)
	r := vm.Run(program(code("f", []int{api.List}, api.List, nil, in(api.InLoad, 0, api.InReturn, 0))), "f", []api.Value{arg}, wide)
	r.Value.List[0] = 9
	if arg.List[0] != 1 {
		t.Error("the result shares memory with an argument")
	}
	// Lists do not change, although several are made of the same one.
	q := program(code("f", []int{api.List}, api.List, []int{api.List, api.List, api.List}, in(
		api.InLoad, 0, api.InConst, 1, api.InPush, 0, api.InStore, 1, api.InLoad, 1, api.InConst, 2, api.InPush, 0, api.InStore, 2, api.InLoad, 1, api.InConst, 3, api.InPush, 0, api.InStore, 3, api.InLoad, 3, api.InConst, 0, api.InConst, 6, api.InSet, 0, api.InPop, 0,
		api.InLoad, 2, api.InLoad, 3, api.InConst, 3, api.InIndex, 0, api.InPush, 0, api.InLoad, 3, api.InConst, 0, api.InIndex, 0, api.InPush, 0, api.InReturn, 0)))
	r = vm.Run(q, "f", []api.Value{list(7, 8)}, wide)
	if !interp.Same(r.Value, list(7, 8, 1, 2, 3, 7)) {
		t.Errorf("%+v", r)
	}
}

func TestP16_1_None(t *testing.T) {
	c := code("f", []int{api.Int, api.Bool, api.List}, api.Int, nil, in(api.InLoad, 0, api.InReturn, 0))
	good := []api.Value{num(1), truth(1), list(1)}
	none := api.Result{End: api.RunNone}
	check := func(what string, p api.Program, name string, args []api.Value) {
		t.Helper()
		if r := vm.Run(p, name, args, wide); !reflect.DeepEqual(r, none) {
			t.Errorf("%s: %+v", what, r)
		}
		if n := vm.Steps(p, name, args, wide); n != 0 {
			t.Errorf("%s: %d steps", what, n)
		}
	}
	expect(t, program(c), good, wide, done(num(1), 0, 0), 2)
	check("another name", program(c), "g", good)
	check("no function", program(), "f", nil)
	for _, args := range [][]api.Value{nil, good[:2], append(good[:3:3], num(1)), {truth(1), truth(1), list()}, {num(1), num(1), list()}, {num(1), truth(1), num(0)}, {num(1), truth(2), list()}, {num(1), truth(1), {Type: api.List, Num: 1}}, {{Type: api.Int, List: []int64{1}}, truth(1), list()}, {{}, truth(1), list()}} {
		check("arguments", program(c), "f", args)
	}
	check("code that is not well-formed", program(c, code("g", nil, api.Int, nil, in(api.InReturn, 0))), "f", good)
	check("a name that occurs twice", program(c, c), "f", good)
	check("a function without instructions", program(c, api.Code{Name: "g", Result: 1}), "f", good)
	if r := vm.Run(program(c), "f", nil, api.Bounds{}); !reflect.DeepEqual(r, none) {
		t.Errorf("RunNone comes before all faults: %+v", r)
	}
}

func TestP16_1_Bounds(t *testing.T) {
	loop := program(code("f", nil, api.Int, nil, in(api.InTick, 0, api.InJump, 0)))
	expect(t, loop, nil, api.Bounds{Fuel: math.MaxInt, Calls: 1}, api.Result{End: api.RunFuel, Fuel: api.MaxFuel}, 2*api.MaxFuel+1)
	expect(t, loop, nil, api.Bounds{Fuel: -1, Calls: 1}, api.Result{End: api.RunFuel}, 1)
	self := program(code("f", nil, api.Int, nil, in(api.InCall, 0, api.InReturn, 0)))
	expect(t, self, nil, api.Bounds{Fuel: 999, Calls: math.MaxInt}, api.Result{End: api.RunCalls}, api.MaxCalls)
	expect(t, self, nil, api.Bounds{Fuel: 999, Calls: math.MinInt}, api.Result{End: api.RunCalls}, 0)
	heap := program(code("f", nil, api.List, nil, in(api.InTick, 0, api.InList, 0, api.InPop, 0, api.InJump, 0)))
	expect(t, heap, nil, api.Bounds{Fuel: math.MaxInt, Calls: 1, Heap: math.MaxInt}, api.Result{End: api.RunHeap, Fuel: api.MaxHeap + 1, Heap: api.MaxHeap}, 4*api.MaxHeap+2)
	expect(t, heap, nil, api.Bounds{Fuel: 99, Calls: 1, Heap: -1}, api.Result{End: api.RunHeap, Fuel: 1}, 2)
}

func TestP16_2_Limit(t *testing.T) {
	jump := code("f", nil, api.Int, nil, in(api.InJump, 0))
	expect(t, program(jump), nil, api.Bounds{Fuel: 6, Calls: 1}, api.Result{End: api.RunFuel}, 7)
	expect(t, program(jump), nil, api.Bounds{Calls: 1}, api.Result{End: api.RunFuel}, 1)
	// The instructions of all functions count.
	expect(t, program(jump, code("g", nil, api.Int, nil, in(api.InTick, 0, api.InConst, 1, api.InReturn, 0))), nil, api.Bounds{Fuel: 2, Calls: 1}, api.Result{End: api.RunFuel}, 12)
	// A run that ends with the last instruction that it may execute.
	const n = 4
	count := func(limit int) api.Program {
		return program(code("f", nil, api.Int, []int{api.Int}, in(api.InLoad, 0, api.InConst, 1, api.InBin, api.OpAdd, api.InStore, 0, api.InLoad, 0, api.InConst, limit, api.InBin, api.OpLt, api.InTrue, 0, api.InLoad, 0, api.InReturn, 0)))
	}
	// Each round executes 8 instructions, and 2 follow: 10 * (fuel + 1) are allowed.
	expect(t, count(n), nil, api.Bounds{Fuel: 3, Calls: 1}, done(num(4), 0, 0), 34)
	expect(t, count(n+1), nil, api.Bounds{Fuel: 3, Calls: 1}, api.Result{End: api.RunFuel}, 40)
	exact := program(code("f", nil, api.Int, nil, in(api.InJump, 1, api.InConst, 1, api.InReturn, 0)))
	expect(t, exact, nil, api.Bounds{Calls: 1}, done(num(1), 0, 0), 3)
	twice := program(code("f", nil, api.Int, []int{api.Bool}, in(api.InLoad, 0, api.InTrue, 5, api.InBool, 1, api.InStore, 0, api.InJump, 0, api.InConst, 1, api.InReturn, 0)))
	expect(t, twice, nil, api.Bounds{Calls: 1}, api.Result{End: api.RunFuel}, 7)
	expect(t, twice, nil, api.Bounds{Fuel: 1, Calls: 1}, done(num(1), 0, 0), 9)
}

func TestP16_3_MoreBounds(t *testing.T) {
	p := program(code("f", []int{api.Int}, api.Int, nil, in(api.InTick, 0, api.InLoad, 0, api.InConst, 0, api.InBin, api.OpEq, api.InFalse, 9, api.InTick, 0, api.InConst, 7, api.InList, 1, api.InJump, 14,
		api.InTick, 0, api.InLoad, 0, api.InConst, 1, api.InBin, api.OpSub, api.InJump, 17, api.InLen, 0, api.InLoad, 0, api.InJump, 19, api.InCall, 0, api.InReturn, 0, api.InBin, api.OpDiv, api.InReturn, 0)))
	top := vm.Run(p, "f", []api.Value{num(2)}, wide)
	if top.End != api.RunZero {
		t.Fatalf("%+v", top)
	}
	for fuel := range 9 {
		for calls := range 5 {
			for heap := range 4 {
				r := vm.Run(p, "f", []api.Value{num(2)}, api.Bounds{Fuel: fuel, Calls: calls, Heap: heap})
				if r.Fuel > fuel || r.Heap > heap || (r.End == api.RunDone || r.End == api.RunZero || r.End == api.RunIndex) && !reflect.DeepEqual(r, top) {
					t.Fatalf("%d, %d, %d: %+v", fuel, calls, heap, r)
				}
			}
		}
	}
}
