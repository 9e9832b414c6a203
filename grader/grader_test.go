package grader_test

import (
	"fmt"
	"math/rand"
	"reflect"
	"strings"
	"testing"

	"classroom/api"
	"classroom/buildcache"
	"classroom/digest"
	"classroom/grader"
)

func of(l ...string) api.Tree {
	var t api.Tree
	for i := 0; i+1 < len(l); i += 2 {
		t.Files = append(t.Files, api.Entry{Path: l[i], Content: l[i+1]})
	}
	return t
}

// task is about the function add in work, which may use lib.
func task() api.Task {
	return api.Task{
		Manifest: api.Manifest{Name: "hw", Protect: []string{"lib"}, Allow: []string{"lib"}, Pins: []api.Pin{{Path: "readme", Digest: digest.Text("read", 32)}}, Bounds: api.Bounds{Fuel: 100, Calls: 10, Heap: 20},
			Tests: []api.Test{{Dir: "tests", Name: "add", Points: 5}, {Dir: "tests", Name: "zero", Points: 3}, {Dir: "more", Name: "loop", Points: 2}}},
		Starter: of("lib/a.m", "func one() int { return 1; }", "readme", "read", "work/a.m", "func add(a int, b int) int { return 0; }"),
		Hidden:  of("more/a.m", `import "work"; func loop() bool { return work.add(-1, 1) == 0; }`, "tests/a.m", `import "work"; func add() bool { return work.add(1, 2) == 3; } func zero() bool { return work.add(0, 0) == 0; }`),
	}
}

// work is a submission of the file work/a.m.
func work(body string) api.Tree { return of("work/a.m", body) }

const right = "func add(a int, b int) int { return a + b; }"

func score(n int, verdicts ...int) api.Grade {
	return api.Grade{Kind: api.GrScore, Score: n, Verdicts: verdicts}
}

func TestP24_1_Grade(t *testing.T) {
	const P, F, X, B = api.VerPass, api.VerFail, api.VerFault, api.VerBuild
	for i, x := range []struct {
		over api.Tree
		want api.Grade
	}{
		{work(right), score(10, P, P, P)}, {of(), score(5, F, P, P)}, {work(`import "lib"; func add(a int, b int) int { return a + b + lib.one() - 1; }`), score(10, P, P, P)}, {work("func add(a int, b int) int { return 3; }"), score(5, P, F, F)},
		{work("func add(a int, b int) int { return 3 / a; }"), score(5, P, X, F)}, {work("func add(a int, b int) int { while a < 0 { } return a + b; }"), score(8, P, P, X)}, {work("func add(a int, b int) int { if a == 0 { return add(a, b); } return a + b; }"), score(7, P, X, P)}, {work("func add(a int, b int) int { return len([1, 2, 3, 4, 5, 6, 7, 8, 9, 10, 11, 12, 13, 14, 15, 16, 17, 18, 19, 20]); }"), score(0, X, X, X)},
		{work("func add(a int) int { return a; }"), score(0, B, B, B)}, {work(""), score(0, B, B, B)}, {of("other/a.m", "func f() int { return 1; }", "work/a.m", right), score(10, P, P, P)}, {of("tests/b.m", "func extra() int { return 1; }", "work/a.m", right), score(10, P, P, P)}, {of("tests/b.m", "func add() bool { return true; }", "work/a.m", right), score(2, B, B, P)},
		{of("lib/a.m", ""), api.Grade{Kind: api.GrPolicy, Issue: api.Issue{Err: api.ErrPolicy, Path: "lib/a.m"}}}, {work(` import "q";`), api.Grade{Kind: api.GrPolicy, Issue: api.Issue{Err: api.ErrAllow, Path: "work/a.m", At: 1}}}, {of("A", ""), api.Grade{Kind: api.GrPolicy, Issue: api.Issue{Err: api.ErrPath}}}, {of("work", ""), api.Grade{Kind: api.GrPolicy, Issue: api.Issue{Err: api.ErrClash}}}, {of("tests/a.m", ""), api.Grade{Kind: api.GrPolicy, Issue: api.Issue{Err: api.ErrPolicy, Path: "tests/a.m"}}},
		{work("#"), api.Grade{Kind: api.GrBuild, Issue: api.Issue{Err: api.ErrToken, Path: "work/a.m"}}}, {work("func add(a int, b int) int { return true; }"), api.Grade{Kind: api.GrBuild, Issue: api.Issue{Err: api.ErrType, Path: "work/a.m", At: 36}}}, {of("other/a.m", "func f() int { }", "work/a.m", right), api.Grade{Kind: api.GrBuild, Issue: api.Issue{Err: api.ErrReturn, Path: "other/a.m"}}}, {of("a.m", "func f() int { return g(); }"), api.Grade{Kind: api.GrBuild, Issue: api.Issue{Err: api.ErrName, Path: "a.m", At: 22}}},
	} {
		for range 2 {
			c, _ := buildcache.New(4, 8)
			for range 2 {
				if got := grader.Grade(task(), x.over, c); !grader.Same(got, x.want) {
					t.Errorf("Grade %d: %+v, want %+v", i, got, x.want)
				}
			}
		}
		if got := grader.Grade(task(), x.over, nil); !grader.Same(got, x.want) {
			t.Errorf("Grade %d without a cache: %+v, want %+v", i, got, x.want)
		}
	}
}

func TestP24_1_Tasks(t *testing.T) {
	const P, B = api.VerPass, api.VerBuild
	for i, x := range []struct {
		change func(t *api.Task)
		want   api.Grade
	}{
		{func(t *api.Task) { t.Manifest.Name = "" }, api.Grade{Kind: api.GrPolicy, Issue: api.Issue{Err: api.ErrName}}}, {func(t *api.Task) { t.Manifest.Pins[0].Digest++ }, api.Grade{Kind: api.GrPolicy, Issue: api.Issue{Err: api.ErrPin}}},
		{func(t *api.Task) { t.Manifest.Tests = nil }, api.Grade{Kind: api.GrScore}}, {func(t *api.Task) { t.Manifest.Tests[1].Name = "none" }, score(7, P, B, P)}, {func(t *api.Task) { t.Manifest.Tests[1].Dir = "none" }, score(7, P, B, P)}, {func(t *api.Task) { t.Manifest.Tests[1].Dir = "work" }, score(7, P, B, P)}, {func(t *api.Task) { t.Hidden.Files[0].Content = "#" }, score(8, P, P, B)}, {func(t *api.Task) { t.Hidden.Files[0].Content = "func loop() int { return 1; }" }, score(8, P, P, B)}, {func(t *api.Task) { t.Hidden.Files[0].Content = "func loop(a int) bool { return true; }" }, score(8, P, P, B)}, {func(t *api.Task) { t.Hidden.Files[0].Content = `import "none"; func loop() bool { return true; }` }, score(8, P, P, B)}, {func(t *api.Task) { t.Hidden = of() }, score(0, B, B, B)}, {func(t *api.Task) { t.Hidden.Files = t.Hidden.Files[1:] }, score(8, P, P, B)},
		{func(t *api.Task) { t.Manifest.Bounds.Fuel = 3 }, score(0, api.VerFault, api.VerFault, api.VerFault)}, {func(t *api.Task) { t.Manifest.Bounds.Calls = 1 }, score(0, api.VerFault, api.VerFault, api.VerFault)}, {func(t *api.Task) { t.Manifest.Tests[0].Points = 0 }, score(5, P, P, P)}, {func(t *api.Task) { t.Starter.Files[0].Content = "#" }, api.Grade{Kind: api.GrBuild, Issue: api.Issue{Err: api.ErrToken, Path: "lib/a.m"}}},
	} {
		k := task()
		x.change(&k)
		if got := grader.Grade(k, work(right), nil); !grader.Same(got, x.want) {
			t.Errorf("task %d: %+v, want %+v", i, got, x.want)
		}
	}
	// A single directory is built, too.
	single := api.Task{Manifest: api.Manifest{Name: "x"}}
	for path, content := range map[string]string{"a.m": "#", "d/a.m": "#"} {
		if got := grader.Grade(single, of(path, content), nil); !grader.Same(got, api.Grade{Kind: api.GrBuild, Issue: api.Issue{Err: api.ErrToken, Path: path}}) {
			t.Errorf("%s: %+v", path, got)
		}
	}
	// Without sources nothing is built but the tests.
	k := api.Task{Manifest: api.Manifest{Name: "x", Bounds: api.Bounds{Fuel: 9, Calls: 9}, Tests: []api.Test{{Dir: "t", Name: "f", Points: 4}}}, Starter: of("readme", ""), Hidden: of("t/a.m", "func f() bool { return true; }")}
	if got := grader.Grade(k, of("x.txt", ""), nil); !grader.Same(got, score(4, P)) {
		t.Errorf("a task without sources: %+v", got)
	}
}

func TestP24_2_Key(t *testing.T) {
	k := task()
	k.Manifest.Tests = k.Manifest.Tests[1:]
	k.Hidden.Files = append(k.Hidden.Files, api.Entry{Path: "z.txt", Content: "secret"})
	over := of("note", "x", "work/a.m", "")
	want := "100:10:20:2:5:tests4:zero3:4:more4:loop2:2:7:lib/a.m28:func one() int { return 1; }8:work/a.m0:2:8:more/a.m64:" + k.Hidden.Files[0].Content + "9:tests/a.m" + fmt.Sprint(len(k.Hidden.Files[1].Content)) + ":" + k.Hidden.Files[1].Content
	if got := grader.Key(k, over); got != want {
		t.Errorf("Key: %q, want %q", got, want)
	}
	for want, over := range map[string]api.Tree{"policy 25 0 lib/a.m": of("lib/a.m", ""), "policy 26 1 work/a.m": work(` import "q";`), "policy 8 0 ": of("A", ""), "policy 10 0 ": of("work", "")} {
		if got := grader.Key(task(), over); got != want {
			t.Errorf("Key: %q, want %q", got, want)
		}
	}
	if got := grader.Key(api.Task{}, of()); got != "policy 18 0 " {
		t.Errorf("Key: %q", got)
	}
	if got := grader.Key(api.Task{Manifest: api.Manifest{Name: "a"}}, of()); got != "0:0:0:0:0:0:" {
		t.Errorf("Key: %q", got)
	}
}

func TestP24_3_Same(t *testing.T) {
	l := []api.Grade{{}, {Kind: 1}, {Kind: 2}, {Issue: api.Issue{Err: 1}}, {Issue: api.Issue{Path: "a"}}, {Issue: api.Issue{At: 1}}, {Score: 1}, {Verdicts: []int{1}}, {Verdicts: []int{1, 2}}, {Verdicts: []int{2, 1}}}
	for i, a := range l {
		for k, b := range l {
			if grader.Same(a, b) != (i == k) {
				t.Errorf("Same(%v, %v)", a, b)
			}
		}
	}
	if !grader.Same(api.Grade{}, api.Grade{Verdicts: []int{}}) {
		t.Error("nil and empty are the same")
	}
}

func TestP24_4_Keys(t *testing.T) {
	r := rand.New(rand.NewSource(24))
	grades := map[string]api.Grade{}
	seen := 0
	for range 3000 {
		k := task()
		if r.Intn(2) == 0 {
			k.Manifest.Tests = k.Manifest.Tests[r.Intn(3):]
		}
		k.Manifest.Bounds.Fuel = []int{100, 4, 5}[r.Intn(3)]
		k.Manifest.Name = []string{"a", "b"}[r.Intn(2)]
		k.Starter.Files[2].Content = []string{"", right}[r.Intn(2)]
		if r.Intn(2) == 0 {
			k.Starter.Files = append(k.Starter.Files, api.Entry{Path: "z.txt", Content: "x"})
		}
		over := []api.Tree{of(), work(right), work("#"), work(`import "q";`), of("lib/x", ""), of("note", "z", "work/a.m", right), work("func add(a int, b int) int { return 3; }")}[r.Intn(7)]
		key := grader.Key(k, over)
		g := grader.Grade(k, over, nil)
		old, was := grades[key]
		if was {
			seen++
		}
		if was && !grader.Same(g, old) {
			t.Fatalf("%q: %+v and %+v", key, g, old)
		}
		grades[key] = g
		if strings.HasPrefix(key, "policy") != (g.Kind == api.GrPolicy) {
			t.Fatalf("%q: %+v", key, g)
		}
	}
	if seen < 100 || len(grades) < 20 {
		t.Errorf("%d keys, %d times the same", len(grades), seen)
	}
	// Files that are no sources do not matter.
	a, b := task(), task()
	a.Manifest.Pins, b.Manifest.Pins = nil, nil
	b.Starter.Files[1].Content = "other"
	b.Hidden.Files = append(b.Hidden.Files, api.Entry{Path: "z.txt", Content: "x"})
	if grader.Key(a, work(right)) != grader.Key(b, work(right)) || !grader.Same(grader.Grade(a, work(right), nil), grader.Grade(b, work(right), nil)) {
		t.Error("files that are no sources")
	}
}

func TestP24_5_Hidden(t *testing.T) {
	for _, hidden := range []string{"", "#", "func add() bool { return false; }", `import "none";`, "func add() bool { return true; }"} {
		for i, over := range []api.Tree{of(), work(right), work("#"), work(`import "q";`), work("func add(a int, b int) int { }"), of("tests/a.m", ""), of("tests/z.m", "func z() int { return true; }")} {
			k := task()
			a := grader.Grade(k, over, nil)
			k.Hidden.Files[1].Content = hidden
			if b := grader.Grade(k, over, nil); a.Kind != b.Kind || a.Issue != b.Issue {
				t.Errorf("%q, submission %d: %+v and %+v", hidden, i, a, b)
			}
		}
	}
	if g := grader.Grade(task(), work(right), nil); !reflect.DeepEqual(g, score(10, 1, 1, 1)) {
		t.Errorf("%+v", g)
	}
}
