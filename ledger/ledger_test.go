package ledger_test

import (
	"math"
	"math/rand"
	"reflect"
	"testing"

	"classroom/api"
	"classroom/ledger"
)

func pair(task, student string) api.Pair { return api.Pair{Student: student, Task: task} }

func grade(n int) api.Grade {
	return api.Grade{Kind: api.GrScore, Score: n, Verdicts: []int{n, 2}}
}

func mark(task, student string, version int) api.Mark {
	return api.Mark{Pair: pair(task, student), Version: version, Grade: grade(version)}
}

func pending(task, student string, version int) api.Mark {
	return api.Mark{Pair: pair(task, student), Version: version, Pending: true}
}

// some has three marks.
func some() []api.Mark {
	return []api.Mark{mark("a", "x", 1), pending("a", "z", 2), mark("b", "x", 3)}
}

func same(a, b []api.Mark) bool { return len(a) == 0 && len(b) == 0 || reflect.DeepEqual(a, b) }

// spoil changes everything that a result could share.
func spoil(l []api.Mark) {
	for i := range l {
		for k := range l[i].Grade.Verdicts {
			l[i].Grade.Verdicts[k] = 99
		}
		l[i].Version = 99
	}
}

func TestP28_1_Check(t *testing.T) {
	bad := pending("a", "z", 2)
	bad.Grade.Score = 1
	verdicts := pending("a", "z", 2)
	verdicts.Grade.Verdicts = []int{1}
	for i, x := range []struct {
		l    []api.Mark
		want api.Errno
	}{
		{nil, api.OK}, {some(), api.OK}, {[]api.Mark{mark("a", "z", 1), mark("b", "a", 1)}, api.OK}, {[]api.Mark{mark("a", "x", 1), mark("a", "x", 1)}, api.ErrTwice}, {[]api.Mark{mark("b", "a", 1), mark("a", "z", 1)}, api.ErrTwice}, {[]api.Mark{mark("a", "z", 1), mark("a", "x", 1)}, api.ErrTwice}, {[]api.Mark{mark("a", "x", 0), mark("a", "z", 1), mark("a", "y", 1)}, api.ErrTwice},
		{[]api.Mark{mark("a", "x", 0)}, api.ErrRange}, {[]api.Mark{pending("a", "x", -1)}, api.ErrRange}, {[]api.Mark{bad}, api.ErrState}, {[]api.Mark{verdicts}, api.ErrState}, {[]api.Mark{bad, mark("b", "x", 0)}, api.ErrState}, {[]api.Mark{mark("a", "x", 0), bad}, api.ErrRange}, {[]api.Mark{{Pair: pair("a", "x"), Pending: true, Grade: grade(1)}}, api.ErrRange}, {[]api.Mark{{Pair: pair("a", "x"), Version: 1}}, api.OK},
	} {
		if e := ledger.Check(x.l); e != x.want {
			t.Errorf("Check %d: %d, want %d", i, e, x.want)
		}
	}
}

func TestP28_2_Find(t *testing.T) {
	l := append(some(), mark("a", "x", 9))
	m, ok := ledger.Find(l, pair("a", "x"))
	if !ok || !reflect.DeepEqual(m, mark("a", "x", 1)) {
		t.Errorf("Find: %v, %t", m, ok)
	}
	m.Grade.Verdicts[0] = 99
	if !reflect.DeepEqual(l[0], mark("a", "x", 1)) {
		t.Error("Find shares memory")
	}
	for _, p := range []api.Pair{pair("x", "a"), pair("a", "y"), {}} {
		if m, ok := ledger.Find(l, p); ok || !reflect.DeepEqual(m, api.Mark{}) {
			t.Errorf("Find of nothing: %v", m)
		}
	}
}

func TestP28_3_Submit(t *testing.T) {
	for i, x := range []struct {
		l    []api.Mark
		p    api.Pair
		want []api.Mark
	}{
		{nil, pair("a", "x"), []api.Mark{pending("a", "x", 1)}}, {some(), pair("a", "x"), []api.Mark{pending("a", "x", 2), pending("a", "z", 2), mark("b", "x", 3)}}, {some(), pair("a", "z"), []api.Mark{mark("a", "x", 1), pending("a", "z", 3), mark("b", "x", 3)}}, {some(), pair("a", "y"), []api.Mark{mark("a", "x", 1), pending("a", "y", 1), pending("a", "z", 2), mark("b", "x", 3)}}, {some(), pair("A", "zz"), []api.Mark{pending("A", "zz", 1), mark("a", "x", 1), pending("a", "z", 2), mark("b", "x", 3)}}, {some(), pair("c", "a"), append(some(), pending("c", "a", 1))}, {some(), pair("b", "a"), []api.Mark{mark("a", "x", 1), pending("a", "z", 2), pending("b", "a", 1), mark("b", "x", 3)}},
		{[]api.Mark{mark("b", "x", 1), mark("a", "x", 1)}, pair("a", "z"), []api.Mark{pending("a", "z", 1), mark("b", "x", 1), mark("a", "x", 1)}}, {[]api.Mark{mark("a", "x", 5), mark("a", "x", 7)}, pair("a", "x"), []api.Mark{pending("a", "x", 6), mark("a", "x", 7)}}, {[]api.Mark{pending("a", "x", math.MaxInt)}, pair("a", "x"), []api.Mark{pending("a", "x", math.MinInt)}}, {[]api.Mark{pending("a", "x", -1)}, pair("a", "x"), []api.Mark{pending("a", "x", 0)}},
	} {
		before := append([]api.Mark{}, x.l...)
		got := ledger.Submit(x.l, x.p)
		if !same(got, x.want) {
			t.Errorf("Submit %d: %v, want %v", i, got, x.want)
		}
		spoil(got)
		if !same(x.l, before) {
			t.Errorf("Submit %d shares memory", i)
		}
	}
}

func TestP28_4_Reopen(t *testing.T) {
	for i, x := range []struct {
		p    api.Pair
		want []api.Mark
		ok   bool
	}{
		{pair("a", "x"), []api.Mark{pending("a", "x", 1), pending("a", "z", 2), mark("b", "x", 3), mark("b", "x", 4)}, true}, {pair("a", "z"), append(some(), mark("b", "x", 4)), true}, {pair("b", "x"), []api.Mark{mark("a", "x", 1), pending("a", "z", 2), pending("b", "x", 3), mark("b", "x", 4)}, true}, {pair("c", "x"), append(some(), mark("b", "x", 4)), false}, {pair("x", "a"), append(some(), mark("b", "x", 4)), false},
	} {
		l := append(some(), mark("b", "x", 4))
		got, ok := ledger.Reopen(l, x.p)
		if ok != x.ok || !same(got, x.want) {
			t.Errorf("Reopen %d: %v, %t", i, got, ok)
		}
		spoil(got)
		if !same(l, append(some(), mark("b", "x", 4))) {
			t.Errorf("Reopen %d shares memory", i)
		}
	}
}

func TestP28_4_Complete(t *testing.T) {
	done := mark("a", "z", 2)
	done.Grade = grade(7)
	for i, x := range []struct {
		p    api.Pair
		want []api.Mark
		ok   bool
	}{{pair("a", "z"), []api.Mark{mark("a", "x", 1), done, mark("b", "x", 3)}, true}, {pair("a", "x"), some(), false}, {pair("c", "x"), some(), false}, {pair("z", "a"), some(), false}} {
		l, g := some(), grade(7)
		got, ok := ledger.Complete(l, x.p, g)
		if ok != x.ok || !same(got, x.want) {
			t.Errorf("Complete %d: %v, %t", i, got, ok)
		}
		spoil(got)
		if !same(l, some()) || !reflect.DeepEqual(g, grade(7)) {
			t.Errorf("Complete %d shares memory", i)
		}
	}
	first := []api.Mark{pending("a", "x", 4), pending("b", "x", 5)}
	if got, ok := ledger.Complete(first, pair("a", "x"), grade(4)); !ok || !same(got, []api.Mark{mark("a", "x", 4), pending("b", "x", 5)}) {
		t.Errorf("the first mark: %v, %t", got, ok)
	}
	// Only the first mark of the pair counts.
	twice := []api.Mark{mark("a", "x", 1), pending("a", "x", 2)}
	if got, ok := ledger.Complete(twice, pair("a", "x"), grade(7)); ok || !same(got, twice) {
		t.Errorf("the first mark is not pending: %v", got)
	}
}

func TestP28_5_Of(t *testing.T) {
	l := append(some(), mark("a", "q", 5))
	got := ledger.Of(l, "a")
	if !same(got, []api.Mark{mark("a", "x", 1), pending("a", "z", 2), mark("a", "q", 5)}) {
		t.Errorf("Of: %v", got)
	}
	spoil(got)
	if !same(l, append(some(), mark("a", "q", 5))) {
		t.Error("Of shares memory")
	}
	if got := ledger.Of(l, "x"); len(got) != 0 {
		t.Errorf("Of nothing: %v", got)
	}
}

func TestP28_6_Properties(t *testing.T) {
	r := rand.New(rand.NewSource(28))
	var l []api.Mark
	for range 5000 {
		p := pair([]string{"a", "b", "c"}[r.Intn(3)], []string{"x", "y", "z"}[r.Intn(3)])
		before := l
		ok := true
		switch r.Intn(3) {
		case 0:
			l = ledger.Submit(l, p)
		case 1:
			l, ok = ledger.Reopen(l, p)
		case 2:
			l, ok = ledger.Complete(l, p, grade(r.Intn(9)))
		}
		if e := ledger.Check(l); e != api.OK {
			t.Fatalf("%v: %d", l, e)
		}
		for _, m := range before {
			now, found := ledger.Find(l, m.Pair)
			if !found || (m.Pair != p || !ok) && !reflect.DeepEqual(now, m) {
				t.Fatalf("%v became %v after a change of %v", m, now, p)
			}
		}
		if r.Intn(100) == 0 {
			l = nil
		}
	}
	l = ledger.Submit(nil, pair("a", "x"))
	l, _ = ledger.Complete(l, pair("a", "x"), grade(1))
	if l = ledger.Submit(l, pair("a", "x")); !same(l, []api.Mark{pending("a", "x", 2)}) {
		t.Errorf("the example: %v", l)
	}
}
