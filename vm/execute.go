package vm

import (
	"slices"

	"classroom/api"
)

// execute executes an instruction of the active call x.
func (m *machine) execute(x *frame, in api.Instr) {
	switch in.Op {
	case api.InConst, api.InBool:
		m.push(int64(in.N))
	case api.InLoad:
		m.push(m.values[x.base+in.N])
	case api.InStore:
		m.values[x.base+in.N] = m.pop()
	case api.InList:
		m.list(in.N)
	case api.InIndex:
		i := m.pop()
		l := m.popList()
		m.push(l[index(l, i)])
	case api.InLen:
		m.push(int64(len(m.popList())))
	case api.InPush:
		v := m.pop()
		l := m.popList()
		m.reserve(len(l) + 1)
		m.pushList(append(l[:len(l):len(l)], v))
	case api.InSet:
		m.set()
	case api.InUnary:
		m.unary(in.N, m.pop())
	case api.InBin:
		b := m.pop()
		m.binary(in.N, m.pop(), b)
	case api.InJump:
		x.next = in.N
	case api.InFalse:
		if m.pop() == 0 {
			x.next = in.N
		}
	case api.InTrue:
		if m.pop() != 0 {
			x.next = in.N
		}
	case api.InCall:
		m.call(in.N)
	case api.InReturn:
		v := m.pop()
		m.values = append(m.values[:x.base], v)
		m.frames = m.frames[:len(m.frames)-1]
	case api.InPop:
		m.pop()
	case api.InTick:
		if m.fuel >= m.bounds.Fuel {
			panic(fault{api.RunFuel})
		}
		m.fuel++
	}
}

// index returns an index that must be in the range of a list.
func index(l []int64, i int64) int {
	if i < 0 || i >= int64(len(l)) {
		panic(fault{api.RunIndex})
	}
	return int(i)
}

// list makes a list of the n topmost values.
func (m *machine) list(n int) {
	m.reserve(n)
	rest := len(m.values) - n
	l := slices.Clone(m.values[rest:])
	m.values = m.values[:rest]
	m.pushList(l)
}

func (m *machine) set() {
	v := m.pop()
	i := m.pop()
	l := m.popList()
	k := index(l, i)
	m.reserve(len(l))
	l = slices.Clone(l)
	l[k] = v
	m.pushList(l)
}

// unary pushes the result of an operator with one operand.
func (m *machine) unary(op int, v int64) {
	if op == api.OpNot {
		m.pushBool(v == 0)
	} else {
		m.push(-v)
	}
}

// binary pushes the result of an operator.
func (m *machine) binary(op int, a, b int64) {
	switch op {
	case api.OpEq:
		m.pushBool(a == b)
	case api.OpNe:
		m.pushBool(a != b)
	case api.OpLt:
		m.pushBool(a < b)
	case api.OpLe:
		m.pushBool(a <= b)
	case api.OpGt:
		m.pushBool(a > b)
	case api.OpGe:
		m.pushBool(a >= b)
	case api.OpAdd:
		m.push(a + b)
	case api.OpSub:
		m.push(a - b)
	case api.OpMul:
		m.push(a * b)
	case api.OpDiv, api.OpRem:
		if b == 0 {
			panic(fault{api.RunZero})
		}
		if op == api.OpDiv {
			m.push(a / b)
		} else {
			m.push(a % b)
		}
	}
}
