package policy_test

import (
	"fmt"
	"math/rand"
	"reflect"
	"strings"
	"testing"

	"classroom/api"
	"classroom/digest"
	"classroom/policy"
	"classroom/tree"
)

func of(l ...string) api.Tree {
	var t api.Tree
	for i := 0; i+1 < len(l); i += 2 {
		t.Files = append(t.Files, api.Entry{Path: l[i], Content: l[i+1]})
	}
	return t
}

func many(prefix string, n int) api.Tree {
	var t api.Tree
	for i := range n {
		t.Files = append(t.Files, api.Entry{Path: fmt.Sprintf("%s%02d", prefix, i)})
	}
	return t
}

func task() api.Task {
	return api.Task{
		Manifest: api.Manifest{Name: "hw", Protect: []string{"lib", "main/fixed.m"}, Allow: []string{"lib", "x/util"}, Pins: []api.Pin{{Path: "readme", Digest: digest.Text("read me", 32)}}},
		Starter:  of("lib/a.m", "func one() int { return 1; }", "main/a.m", "", "readme", "read me"),
		Hidden:   of("tests/deep/b.m", "", "tests/t.m", "func t() bool { return true; }"),
	}
}

func TestP19_1_CheckTask(t *testing.T) {
	for i, x := range []struct {
		change func(t *api.Task)
		want   api.Errno
	}{
		{func(t *api.Task) {}, api.OK}, {func(t *api.Task) { t.Manifest.Name = "" }, api.ErrName}, {func(t *api.Task) { t.Manifest.Bounds.Fuel, t.Starter = -1, of("A", "") }, api.ErrRange},
		{func(t *api.Task) { t.Starter, t.Hidden = of("A", ""), of("b", "", "a", "") }, api.ErrPath}, {func(t *api.Task) { t.Starter, t.Hidden = of("b", "", "a", ""), of("A", "") }, api.ErrTwice}, {func(t *api.Task) { t.Hidden = of("b", "", "a", "") }, api.ErrTwice}, {func(t *api.Task) { t.Hidden = of("a", strings.Repeat("x", 4097)) }, api.ErrLong}, {func(t *api.Task) { t.Starter = of("a", "", "a/b", "") }, api.ErrClash},
		{func(t *api.Task) { t.Hidden = of("readme", "") }, api.ErrClash}, {func(t *api.Task) { t.Hidden = of("readme/x", "") }, api.ErrClash}, {func(t *api.Task) { t.Hidden = of("main", "") }, api.ErrClash}, {func(t *api.Task) { t.Hidden = of("main-x", "", "main/b.m", "") }, api.OK},
		{func(t *api.Task) { t.Manifest.Pins, t.Starter, t.Hidden = nil, many("a", 33), many("b", 32) }, api.ErrLong}, {func(t *api.Task) { t.Manifest.Pins, t.Starter, t.Hidden = nil, many("a", 32), many("b", 32) }, api.OK}, {func(t *api.Task) { t.Starter, t.Hidden = many("a", 33), many("b", 32) }, api.ErrLong}, {func(t *api.Task) { t.Starter, t.Hidden = many("a", 64), many("a", 64) }, api.ErrClash},
		{func(t *api.Task) { t.Manifest.Pins[0].Digest++ }, api.ErrPin}, {func(t *api.Task) { t.Manifest.Pins[0].Path = "main/a" }, api.ErrPin}, {func(t *api.Task) {
			t.Manifest.Pins[0].Path = "tests/t.m"
			t.Manifest.Pins[0].Digest = digest.Text("func t() bool { return true; }", 32)
		}, api.ErrPin}, {func(t *api.Task) { t.Starter.Files[2].Content = "other" }, api.ErrPin}, {func(t *api.Task) {
			t.Manifest.Pins = append(t.Manifest.Pins, api.Pin{Path: "main/a.m", Digest: digest.Text("", 32)})
		}, api.OK}, {func(t *api.Task) { t.Manifest.Pins = append(t.Manifest.Pins, api.Pin{Path: "main/a.m"}) }, api.ErrPin}, {func(t *api.Task) { t.Manifest.Pins[0].Digest &= 0xffff }, api.ErrPin},
	} {
		k := task()
		x.change(&k)
		if e := policy.CheckTask(k); e != x.want {
			t.Errorf("CheckTask %d: %d, want %d", i, e, x.want)
		}
		if x.want == api.OK {
			continue
		}
		if issue := policy.Check(k, of("lib/a.m", "")); issue != (api.Issue{Err: x.want}) {
			t.Errorf("Check %d: %v, want %d", i, issue, x.want)
		}
		for name, f := range map[string]func(api.Task, api.Tree) (api.Tree, api.Errno){"Given": policy.Given, "Effective": policy.Effective} {
			if got, e := f(k, of("A", "")); e != x.want || len(got.Files) != 0 {
				t.Errorf("%s %d: %v, %d, want %d", name, i, got, e, x.want)
			}
		}
	}
}

func TestP19_2_Protected(t *testing.T) {
	for p, want := range map[string]bool{
		"lib": true, "lib/a.m": true, "lib/new/x.m": true, "lib2": false, "li": false, "main/fixed.m": true, "main/fixed.m/x": true, "main": false, "main/a.m": false, "main/fixed": false,
		"readme": true, "readme/x": false, "read": false, "tests": true, "tests/t.m": true, "tests/t.m/x": true, "tests/deep": true, "tests/deep/b.m": true, "tests/other.m": false, "tests/deep/c": false, "test": false, "": true, "\xff": false, "/": false, "lib/": true,
	} {
		if policy.Protected(task(), p) != want {
			t.Errorf("Protected(%q) is not %t", p, want)
		}
	}
	if policy.Protected(api.Task{}, "") || policy.Protected(api.Task{}, "a") {
		t.Error("nothing is protected")
	}
	if !policy.Protected(api.Task{Manifest: api.Manifest{Protect: []string{""}}}, "a") {
		t.Error("the root is protected")
	}
}

func TestP19_3_Check(t *testing.T) {
	const good = `import "lib"; func f() int { return lib.one(); }`
	for i, x := range []struct {
		over api.Tree
		want api.Issue
	}{
		{of(), api.Issue{}}, {of("main/a.m", good, "main/b.txt", `import "bad";`), api.Issue{}}, {of("main/a.m", `import "lib"; import "x/util";`), api.Issue{}}, {of("main/a.m", `import "bad"; #`), api.Issue{}}, {of("main/a.m", `import "bad"`), api.Issue{}}, {of("new/x.m", "func f() bool { return 1; }"), api.Issue{}},
		{of("A", ""), api.Issue{Err: api.ErrPath}}, {of("b", "", "a", ""), api.Issue{Err: api.ErrTwice}}, {of("lib/a.m", "", "lib/a.m", ""), api.Issue{Err: api.ErrTwice}},
		{of("lib/a.m", "func one() int { return 1; }"), api.Issue{Err: api.ErrPolicy, Path: "lib/a.m"}}, {of("a", "", "readme", "read me"), api.Issue{Err: api.ErrPolicy, Path: "readme"}}, {of("tests/t.m", ""), api.Issue{Err: api.ErrPolicy, Path: "tests/t.m"}}, {of("tests", ""), api.Issue{Err: api.ErrPolicy, Path: "tests"}}, {of("tests/deep", ""), api.Issue{Err: api.ErrPolicy, Path: "tests/deep"}}, {of("tests/t.m/x", ""), api.Issue{Err: api.ErrPolicy, Path: "tests/t.m/x"}}, {of("lib", ""), api.Issue{Err: api.ErrPolicy, Path: "lib"}}, {of("main/fixed.m", `import "bad";`), api.Issue{Err: api.ErrPolicy, Path: "main/fixed.m"}}, {of("tests/new.m", ""), api.Issue{}},
		{of("main/a.m", `import "bad"; import "worse";`), api.Issue{Err: api.ErrAllow, Path: "main/a.m"}}, {of("main/a.m", ` import "lib"; import "util"; func f`+`() int { }`), api.Issue{Err: api.ErrAllow, Path: "main/a.m", At: 15}}, {of("main/a.m", `import "lib/sub";`), api.Issue{Err: api.ErrAllow, Path: "main/a.m"}}, {of("main/a.m", `import "";`), api.Issue{Err: api.ErrAllow, Path: "main/a.m"}}, {of("main/a.m", `import "main";`), api.Issue{Err: api.ErrAllow, Path: "main/a.m"}},
		{of("a.m", `import "bad";`, "lib/x", ""), api.Issue{Err: api.ErrAllow, Path: "a.m"}}, {of("lib/x", "", "main/z.m", `import "bad";`), api.Issue{Err: api.ErrPolicy, Path: "lib/x"}},
		{of("main", ""), api.Issue{Err: api.ErrClash}}, {of("main/a.m/x", ""), api.Issue{Err: api.ErrClash}}, {of("readme/x", ""), api.Issue{Err: api.ErrClash}}, {many("z", 60), api.Issue{Err: api.ErrLong}}, {many("z", 59), api.Issue{}}, {of("main", "", "main-x.m", `import "bad";`), api.Issue{Err: api.ErrAllow, Path: "main-x.m"}},
	} {
		if issue := policy.Check(task(), x.over); issue != x.want {
			t.Errorf("Check %d: %v, want %v", i, issue, x.want)
		}
	}
}

func TestP19_4_Trees(t *testing.T) {
	over := of("main/a.m", "new", "main/b.m", "more")
	given, e1 := policy.Given(task(), over)
	effective, e2 := policy.Effective(task(), over)
	if e1 != api.OK || !reflect.DeepEqual(given, of("lib/a.m", "func one() int { return 1; }", "main/a.m", "new", "main/b.m", "more", "readme", "read me")) {
		t.Errorf("Given: %v, %d", given, e1)
	}
	if e2 != api.OK || !reflect.DeepEqual(effective, of("lib/a.m", "func one() int { return 1; }", "main/a.m", "new", "main/b.m", "more", "readme", "read me", "tests/deep/b.m", "", "tests/t.m", "func t() bool { return true; }")) {
		t.Errorf("Effective: %v, %d", effective, e2)
	}
	// They do not check the policy, but hidden files win.
	effective, e2 = policy.Effective(task(), of("lib/a.m", "changed", "tests/t.m", "changed"))
	lib, _ := tree.Get(effective, "lib/a.m")
	hidden, _ := tree.Get(effective, "tests/t.m")
	if e2 != api.OK || lib != "changed" || hidden != "func t() bool { return true; }" {
		t.Errorf("Effective of a submission that is not allowed: %v, %d", effective, e2)
	}
	for i, x := range []struct {
		over      api.Tree
		given, ef api.Errno
	}{{of("A", ""), api.ErrPath, api.ErrPath}, {of("b", "", "a", ""), api.ErrTwice, api.ErrTwice}, {of("main", ""), api.ErrClash, api.ErrClash}, {of("tests", ""), api.OK, api.ErrClash}, {many("z", 61), api.OK, api.ErrLong}, {many("z", 62), api.ErrLong, api.ErrLong}} {
		g, e1 := policy.Given(task(), x.over)
		f, e2 := policy.Effective(task(), x.over)
		if e1 != x.given || e2 != x.ef || (len(g.Files) == 0) != (e1 != api.OK) || len(f.Files) != 0 {
			t.Errorf("%d: %d, %d", i, e1, e2)
		}
	}
}

func TestP19_5_Property(t *testing.T) {
	r := rand.New(rand.NewSource(19))
	paths := []string{"lib/a.m", "main", "main/a.m", "main/b.m", "readme", "tests", "tests/t.m", "tests/u.m", "x.m"}
	allowed := 0
	for range 3000 {
		var over api.Tree
		for _, p := range paths {
			if r.Intn(4) == 0 {
				over.Files = append(over.Files, api.Entry{Path: p, Content: []string{"", `import "lib";`, `import "q";`}[r.Intn(3)]})
			}
		}
		k := task()
		if policy.Check(k, over) != (api.Issue{}) {
			continue
		}
		allowed++
		_, e1 := policy.Given(k, over)
		effective, e2 := policy.Effective(k, over)
		if e1 != api.OK || e2 != api.OK {
			t.Fatalf("%v: %d, %d", over, e1, e2)
		}
		for _, p := range append(paths, "tests/deep/b.m", "lib/b.m") {
			want, had := tree.Get(k.Starter, p)
			if s, ok := tree.Get(k.Hidden, p); ok {
				want, had = s, ok
			}
			if got, has := tree.Get(effective, p); policy.Protected(k, p) && (got != want || has != had) {
				t.Fatalf("%v: %s is %q", over, p, got)
			}
		}
	}
	if allowed < 50 {
		t.Errorf("only %d submissions are allowed", allowed)
	}
}
