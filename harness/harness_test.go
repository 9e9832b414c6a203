package harness_test

import (
	"reflect"
	"testing"

	"classroom/api"
	"classroom/compiler"
	"classroom/harness"
	"classroom/loader"
)

func TestP17_1_Check(t *testing.T) {
	f := api.Interface{Dir: "t", Funcs: []api.Signature{{Name: "a", Result: api.Bool}, {Name: "b", Result: api.Int}, {Name: "c", Params: []int{api.Int}, Result: api.Bool}, {Name: "d", Result: api.List}, {Name: "e", Result: api.Int}, {Name: "e", Result: api.Bool}, {Name: "f", Result: api.Bool}, {Name: "f", Result: api.Int}}}
	for name, want := range map[string]api.Errno{"a": api.OK, "b": api.ErrTest, "c": api.ErrTest, "d": api.ErrTest, "e": api.ErrTest, "f": api.OK, "g": api.ErrTest, "": api.ErrTest} {
		if e := harness.Check(f, api.Test{Dir: "t", Name: name, Points: -1}); e != want {
			t.Errorf("Check of %q: %d, want %d", name, e, want)
		}
	}
	for _, dir := range []string{"", "T", "t/", "t/a"} {
		if e := harness.Check(f, api.Test{Dir: dir, Name: "a"}); e != api.ErrTest {
			t.Errorf("Check of another directory %q: %d", dir, e)
		}
	}
	if e := harness.Check(api.Interface{}, api.Test{}); e != api.ErrTest {
		t.Errorf("Check of nothing: %d", e)
	}
}

// program compiles the package t.
func program(t *testing.T, s string) api.Program {
	t.Helper()
	p, issue := loader.Load(api.Tree{Files: []api.Entry{{Path: "t/a.m", Content: s}}}, "t")
	if issue != (api.Issue{}) {
		t.Fatal(issue)
	}
	o, issue := compiler.Compile(p, nil)
	if issue != (api.Issue{}) {
		t.Fatal(issue)
	}
	l, _ := compiler.Link([]api.Object{o})
	return l
}

var bounds = api.Bounds{Fuel: 100, Calls: 10, Heap: 10}

func TestP17_2_Verdict(t *testing.T) {
	p := program(t, `func yes() bool { return true; } func no() bool { return false; } func zero() bool { return 1 / 0 == 1; } func loop() bool { while true { } return true; } func deep() bool { return deep(); } func big() bool { return len([1, 2, 3, 4, 5, 6, 7, 8, 9, 10]) == 10; } func index() bool { return [][0] == 0; }
		func one() int { return 1; } func many() list { return [1]; } func param(b bool) bool { return true; }`)
	want := map[string]int{"yes": api.VerPass, "no": api.VerFail, "zero": api.VerFault, "loop": api.VerFault, "deep": api.VerFault, "big": api.VerFault, "index": api.VerFault, "one": api.VerFail, "many": api.VerFail, "param": api.VerBuild, "none": api.VerBuild}
	for name, v := range want {
		if got := harness.Verdict(p, api.Test{Dir: "t", Name: name}, bounds); got != v {
			t.Errorf("%s: %d, want %d", name, got, v)
		}
	}
	for _, dir := range []string{"", "T", "t/t"} {
		if got := harness.Verdict(p, api.Test{Dir: dir, Name: "yes"}, bounds); got != api.VerBuild {
			t.Errorf("the directory %q: %d", dir, got)
		}
	}
	if got := harness.Verdict(api.Program{}, api.Test{}, bounds); got != api.VerBuild {
		t.Errorf("no program: %d", got)
	}
	bad := api.Program{Funcs: append(p.Funcs, api.Code{Name: "x"})}
	if got := harness.Verdict(bad, api.Test{Dir: "t", Name: "yes"}, bounds); got != api.VerBuild {
		t.Errorf("a program that is not well-formed: %d", got)
	}
	if got := harness.Verdict(p, api.Test{Dir: "t", Name: "yes"}, api.Bounds{Fuel: 1, Calls: 1}); got != api.VerFault {
		t.Errorf("too little fuel: %d", got)
	}
	if got := harness.Verdict(p, api.Test{Dir: "t", Name: "big"}, api.Bounds{Fuel: 9, Calls: 1, Heap: 11}); got != api.VerPass {
		t.Errorf("the bounds count: %d", got)
	}
}

func TestP17_2_Verdicts(t *testing.T) {
	p := program(t, "func yes() bool { return true; } func no() bool { return false; }")
	l := []api.Test{{Dir: "t", Name: "no"}, {Dir: "t", Name: "yes"}, {Dir: "t", Name: "x"}, {Dir: "t", Name: "yes"}}
	if got := harness.Verdicts(p, l, bounds); !reflect.DeepEqual(got, []int{api.VerFail, api.VerPass, api.VerBuild, api.VerPass}) {
		t.Errorf("Verdicts: %v", got)
	}
	if got := harness.Verdicts(p, nil, bounds); len(got) != 0 {
		t.Errorf("no tests: %v", got)
	}
}

func TestP17_3_Score(t *testing.T) {
	l := []api.Test{{Points: 1}, {Points: 20}, {Points: -5}, {Points: 1001}, {Points: 1000}, {Points: 0}, {Points: 1 << 62}, {Points: -1 << 63}}
	for i, x := range []struct {
		verdicts []int
		want     int
	}{
		{nil, 0}, {[]int{api.VerPass}, 1}, {[]int{api.VerPass, api.VerPass}, 21}, {[]int{api.VerFail, api.VerPass}, 20}, {[]int{api.VerFault, api.VerBuild, api.VerPass}, 0}, {[]int{0, 0, 0, api.VerPass}, 1000}, {[]int{0, 5, -1, 0, api.VerPass}, 1000}, {[]int{1, 1, 1, 1, 1, 1, 1, 1, 1, 1}, 3021},
	} {
		if got := harness.Score(l, x.verdicts); got != x.want {
			t.Errorf("Score %d: %d, want %d", i, got, x.want)
		}
	}
	if harness.Score(nil, []int{api.VerPass}) != 0 {
		t.Error("a verdict without a test")
	}
}

func TestP17_4_Independent(t *testing.T) {
	p := program(t, "func a() bool { return len([1, 2, 3]) == 3; } func b() bool { while true { } return true; } func c() bool { return false; }")
	l := []api.Test{{Dir: "t", Name: "a"}, {Dir: "t", Name: "b"}, {Dir: "t", Name: "c"}}
	for _, x := range [][]int{{0, 1, 2}, {2, 1, 0}, {1, 1, 0}, {0, 0, 0}} {
		tests := []api.Test{l[x[0]], l[x[1]], l[x[2]]}
		got := harness.Verdicts(p, tests, bounds)
		for i, test := range tests {
			if got[i] != harness.Verdict(p, test, bounds) {
				t.Errorf("%v: %v", tests, got)
			}
		}
	}
}
