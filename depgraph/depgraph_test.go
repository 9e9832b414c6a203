package depgraph_test

import (
	"fmt"
	"math/rand"
	"reflect"
	"strings"
	"testing"

	"classroom/api"
	"classroom/depgraph"
	"classroom/loader"
)

func of(l ...string) api.Tree {
	var t api.Tree
	for i := 0; i+1 < len(l); i += 2 {
		t.Files = append(t.Files, api.Entry{Path: l[i], Content: l[i+1]})
	}
	return t
}

// imports writes imports.
func imports(l ...string) string {
	s := ""
	for _, x := range l {
		s += `import "` + x + `";`
	}
	return s
}

// pack is a package with a file for each list of imports; their offsets are 0, 1 and so on in a file.
func pack(dir string, files ...[]string) api.Package {
	p := api.Package{Dir: dir}
	for i, l := range files {
		var f api.File
		for k, x := range l {
			f.Imports = append(f.Imports, api.Import{Path: x, At: k})
		}
		p.Paths, p.Files = append(p.Paths, fmt.Sprintf("%s/%c.m", dir, 'a'+i)), append(p.Files, f)
	}
	return p
}

func dirs(l []api.Package) string {
	s := ""
	for _, p := range l {
		s += p.Dir + " "
	}
	return strings.TrimSuffix(s, " ")
}

func TestP20_1_Closure(t *testing.T) {
	tree := of("a/x.m", imports("c", "b/q"), "b/q/x.m", imports("d"), "c/x.m", imports("d", "a"), "d/x.m", "", "e/x.m", "", "f/x.m", "#", "g/x", "", "top.m", imports("e"))
	for roots, want := range map[string]string{"a": "a b/q c d", "d": "d", "e,d": "d e", "d,d,d": "d", "c,e": "a b/q c d e", "e,a,b/q": "a b/q c d e"} {
		l, issue := depgraph.Closure(tree, strings.Split(roots, ","))
		if issue != (api.Issue{}) || dirs(l) != want {
			t.Errorf("Closure of %q: %q, %v", roots, dirs(l), issue)
		}
		for _, p := range l {
			if q, _ := loader.Load(tree, p.Dir); !reflect.DeepEqual(p, q) {
				t.Errorf("the package %q: %v", p.Dir, p)
			}
		}
	}
	if l, issue := depgraph.Closure(tree, []string{""}); issue != (api.Issue{}) || dirs(l) != " e" {
		t.Errorf("Closure of the root: %q, %v", dirs(l), issue)
	}
	if l, issue := depgraph.Closure(tree, nil); issue != (api.Issue{}) || len(l) != 0 {
		t.Errorf("Closure of nothing: %q, %v", dirs(l), issue)
	}
}

func TestP20_1_Issues(t *testing.T) {
	for i, x := range []struct {
		t     api.Tree
		roots string
		want  api.Issue
	}{
		{of("a/x.m", ""), "b", api.Issue{Err: api.ErrEmpty}}, {of("a/x.m", ""), "a,b", api.Issue{Err: api.ErrEmpty}}, {of("a/x.m", "#"), "a", api.Issue{Err: api.ErrToken, Path: "a/x.m"}}, {of("a/x.m", "#", "b/x.m", "func"), "b,a", api.Issue{Err: api.ErrSyntax, Path: "b/x.m", At: 4}}, {of("a/x.m", imports("none"), "b/x.m", "#"), "a,b", api.Issue{Err: api.ErrToken, Path: "b/x.m"}},
		{of("a/x.m", imports("b"), "b/x.m", " #"), "a", api.Issue{Err: api.ErrToken, Path: "b/x.m", At: 1}}, {of("a/x.m", imports("b", "c"), "b/x.m", imports("z"), "c/x.m", "#"), "a", api.Issue{Err: api.ErrToken, Path: "c/x.m"}}, {of("a/x.m", imports("c", "b"), "b/x.m", "func", "c/x.m", "#"), "a", api.Issue{Err: api.ErrSyntax, Path: "b/x.m", At: 4}},
		{of("a/x.m", imports("b")), "a", api.Issue{Err: api.ErrImport, Path: "a/x.m"}}, {of("a/x.m", "", "a/y.m", " "+imports("c", "b"), "a/z.m", imports("b"), "c/x.m", ""), "a", api.Issue{Err: api.ErrImport, Path: "a/y.m", At: 12}}, {of("a/x.m", imports("z", "b")), "a", api.Issue{Err: api.ErrImport, Path: "a/x.m", At: 11}}, {of("a/x.m", imports("b"), "b/x.m", "", "c/x.m", imports("z"), "d/x.m", imports("z")), "a,d,c", api.Issue{Err: api.ErrImport, Path: "d/x.m"}}, {of("a/x.m", imports("b"), "b/y", ""), "a", api.Issue{Err: api.ErrImport, Path: "a/x.m"}}, {of("a/x.m", imports("b"), "b/x.m", imports("c")), "a", api.Issue{Err: api.ErrImport, Path: "b/x.m"}},
		{of("a/x.m", imports("d", "b"), "b/x.m", imports("z"), "c/x.m", imports("y"), "d/x.m", imports("e"), "e/x.m", "#"), "c,a", api.Issue{Err: api.ErrImport, Path: "c/x.m"}},
		{of("a/x.m", imports("b"), "b/x.m", imports("c", "d"), "c/x.m", imports("z"), "d/x.m", "#"), "a", api.Issue{Err: api.ErrToken, Path: "d/x.m"}},
	} {
		l, issue := depgraph.Closure(x.t, strings.Split(x.roots, ","))
		if issue != x.want || len(l) != 0 {
			t.Errorf("Closure %d: %v, want %v", i, issue, x.want)
		}
	}
}

func TestP20_1_Long(t *testing.T) {
	chain := func(n int, last string) (api.Tree, []string) {
		var t api.Tree
		var l []string
		for i := range n {
			s := imports(fmt.Sprintf("p%02d", i+1))
			if i == n-1 {
				s = last
			}
			t.Files = append(t.Files, api.Entry{Path: fmt.Sprintf("p%02d/a.m", i), Content: s})
			l = append(l, fmt.Sprintf("p%02d", i))
		}
		return t, l
	}
	tree, all := chain(32, "")
	for _, roots := range [][]string{all, all[:1], append(all[:32:32], all...)} {
		if l, issue := depgraph.Closure(tree, roots); issue != (api.Issue{}) || len(l) != 32 {
			t.Errorf("MaxPackages packages: %v", issue)
		}
	}
	for _, last := range []string{"", "#"} {
		tree, all = chain(33, last)
		for _, roots := range [][]string{all, all[:1]} {
			if l, issue := depgraph.Closure(tree, roots); issue != (api.Issue{Err: api.ErrLong}) || len(l) != 0 {
				t.Errorf("more than MaxPackages packages: %v", issue)
			}
		}
	}
	tree, all = chain(32, imports("none"))
	if _, issue := depgraph.Closure(tree, all[:1]); issue != (api.Issue{Err: api.ErrLong}) {
		t.Errorf("a further directory without sources: %v", issue)
	}
}

func TestP20_2_Order(t *testing.T) {
	none := []string{}
	for i, x := range []struct {
		l    []api.Package
		want []int
	}{
		{nil, nil}, {[]api.Package{pack("a")}, []int{0}}, {[]api.Package{pack("a", []string{"b"}), pack("b")}, []int{1, 0}}, {[]api.Package{pack("a"), pack("b", []string{"a"})}, []int{0, 1}}, {[]api.Package{pack("a", []string{"c"}), pack("b", none), pack("c", none), pack("d", none)}, []int{1, 2, 0, 3}}, {[]api.Package{pack("a", none, []string{"z", "c"}), pack("b", []string{"a"}), pack("c", none)}, []int{2, 0, 1}},
		{[]api.Package{pack("a", []string{"b", "c"}, []string{"b"}), pack("b", []string{"c"}), pack("c", []string{"x"}), pack("d", []string{"c"})}, []int{2, 1, 0, 3}}, {[]api.Package{pack("a", []string{"d"}), pack("b", []string{"c"}), pack("c"), pack("d")}, []int{2, 1, 3, 0}},
		// The first package with a directory is meant.
		{[]api.Package{pack("a", []string{"b"}), pack("b"), pack("b", []string{"a"})}, []int{1, 0, 2}}, {[]api.Package{pack("b"), pack("b", []string{"b"}), pack("a", []string{"b"})}, []int{0, 1, 2}},
	} {
		if got, issue := depgraph.Order(x.l); !reflect.DeepEqual(append([]int{}, got...), append([]int{}, x.want...)) || issue != (api.Issue{}) {
			t.Errorf("Order %d: %v, %v, want %v", i, got, issue, x.want)
		}
	}
}

func TestP20_2_Cycle(t *testing.T) {
	for i, x := range []struct {
		l    []api.Package
		path string
		at   int
	}{
		{[]api.Package{pack("a", []string{"b"}), pack("b", []string{"a"})}, "a/a.m", 0}, {[]api.Package{pack("a", []string{"x", "a"})}, "a/a.m", 1}, {[]api.Package{pack("a", []string{"b"}), pack("b", []string{"c", "b"}), pack("c")}, "b/a.m", 1}, {[]api.Package{pack("a", []string{"b"}), pack("b", []string{"c"}), pack("c", []string{"d", "b"}), pack("d")}, "b/a.m", 0}, {[]api.Package{pack("a", []string{"d", "c"}, []string{"b"}), pack("b", []string{"a"}), pack("c"), pack("d", []string{"c"})}, "a/b.m", 0},
		{[]api.Package{pack("a", []string{"c", "b"}), pack("b", []string{"a"}), pack("c", []string{"d"}), pack("d", []string{"c"})}, "a/a.m", 1}, {[]api.Package{pack("x"), pack("c", []string{"a"}), pack("b", []string{"c"}), pack("a", []string{"x", "b", "c"})}, "c/a.m", 0}, {[]api.Package{pack("b", []string{"a"}), pack("b", []string{"b"}), pack("a", []string{"b"})}, "b/a.m", 0}, {[]api.Package{pack("a", []string{"b"}), pack("z", []string{"a"}), pack("b", []string{"z2", "a"}), pack("a", []string{"a"})}, "a/a.m", 0},
	} {
		want := api.Issue{Err: api.ErrCycle, Path: x.path, At: x.at}
		if got, issue := depgraph.Order(x.l); len(got) != 0 || issue != want {
			t.Errorf("Order %d: %v, %v, want %v", i, got, issue, want)
		}
	}
	p := api.Package{Files: []api.File{{Imports: []api.Import{{Path: "", At: 7}}}}}
	if _, issue := depgraph.Order([]api.Package{p}); issue != (api.Issue{Err: api.ErrCycle, At: 7}) {
		t.Errorf("a package without paths: %v", issue)
	}
}

func TestP20_3_Deps(t *testing.T) {
	l := []api.Package{pack("a", []string{"c"}), pack("b", []string{"a"}, []string{"x", "d"}), pack("c"), pack("d", []string{"e"}), pack("e", []string{"d"}), pack("a", []string{"b"}), pack("f", []string{"f"})}
	for k, want := range map[int][]int{0: {2}, 1: {0, 2, 3, 4}, 2: nil, 3: {3, 4}, 4: {3, 4}, 5: {0, 1, 2, 3, 4}, 6: {6}, 7: nil, -1: nil, 1 << 40: nil} {
		if got := depgraph.Deps(l, k); !reflect.DeepEqual(append([]int{}, got...), append([]int{}, want...)) {
			t.Errorf("Deps(%d): %v, want %v", k, got, want)
		}
	}
}

func TestP20_4_Properties(t *testing.T) {
	r := rand.New(rand.NewSource(20))
	cycles := 0
	for range 3000 {
		n := 1 + r.Intn(6)
		var l []api.Package
		for i := range n {
			var files [][]string
			for range r.Intn(3) {
				var f []string
				for range r.Intn(3) {
					f = append(f, fmt.Sprint("p", r.Intn(n+1)))
				}
				files = append(files, f)
			}
			l = append(l, pack(fmt.Sprint("p", i), files...))
		}
		order, issue := depgraph.Order(l)
		if issue != (api.Issue{}) {
			cycles++
			if on := firstOnCycle(l); issue != on {
				t.Fatalf("%v: %v, want %v", l, issue, on)
			}
			continue
		}
		if want := slowOrder(l); !reflect.DeepEqual(order, want) {
			t.Fatalf("%v: %v, want %v", l, order, want)
		}
	}
	if cycles < 500 || cycles > 2500 {
		t.Errorf("%d cycles", cycles)
	}
	a, _ := depgraph.Closure(of("a/x.m", imports("b"), "b/x.m", ""), []string{"a"})
	b, issue := depgraph.Closure(of("a/x", "#", "a/x.m", imports("b"), "a/y/x.m", "#", "b/x.m", "", "c/x.m", "#"), []string{"a"})
	if !reflect.DeepEqual(a, b) || issue != (api.Issue{}) {
		t.Errorf("other files: %v", issue)
	}
}

// slowOrder follows the document step by step.
func slowOrder(l []api.Package) []int {
	var order []int
	placed := map[string]bool{}
	known := map[string]bool{}
	for _, p := range l {
		known[p.Dir] = true
	}
	for len(order) < len(l) {
		for i, p := range l {
			ready := !placed[p.Dir]
			for _, x := range loader.Imports(p) {
				ready = ready && (placed[x] || !known[x])
			}
			if ready {
				order, placed[p.Dir] = append(order, i), true
				break
			}
		}
	}
	return order
}

// firstOnCycle finds the import by trying all chains.
func firstOnCycle(l []api.Package) api.Issue {
	for k, p := range l {
		for i, f := range p.Files {
			for _, x := range f.Imports {
				for to, q := range l {
					if q.Dir != x.Path {
						continue
					}
					back := to == k
					for _, d := range depgraph.Deps(l, to) {
						back = back || d == k
					}
					if back {
						return api.Issue{Err: api.ErrCycle, Path: p.Paths[i], At: x.At}
					}
				}
			}
		}
	}
	return api.Issue{}
}
