package buildkey_test

import (
	"fmt"
	"math/rand"
	"reflect"
	"strings"
	"testing"

	"classroom/api"
	"classroom/buildkey"
	"classroom/depgraph"
	"classroom/loader"
)

func of(l ...string) api.Tree {
	var t api.Tree
	for i := 0; i+1 < len(l); i += 2 {
		t.Files = append(t.Files, api.Entry{Path: l[i], Content: l[i+1]})
	}
	return t
}

// pack is a package with the only source a.m that imports others.
func pack(dir string, imports ...string) api.Package {
	p := api.Package{Dir: dir, Paths: []string{dir + "/a.m"}, Files: []api.File{{}}}
	for _, x := range imports {
		p.Files[0].Imports = append(p.Files[0].Imports, api.Import{Path: x})
	}
	return p
}

func TestP21_1_Key(t *testing.T) {
	for i, x := range []struct {
		t    api.Tree
		l    []api.Package
		k    int
		want string
	}{
		{of("m/a.m", ""), []api.Package{pack("m")}, 0, "1:m1:5:m/a.m0:0:"},
		{of("m/a.m", "hello größe"), []api.Package{pack("m")}, 0, "1:m1:5:m/a.m13:hello größe0:"},
		{of(), []api.Package{pack("m")}, 0, "1:m1:5:m/a.m0:0:"},
		{of("m/a.m", "x", "m/a.m", "y"), []api.Package{pack("m")}, 0, "1:m1:5:m/a.m1:x0:"},
		{of("a.m", "q"), []api.Package{{Paths: []string{"a.m", "b.m"}}}, 0, "0:2:3:a.m1:q3:b.m0:0:"},
		{of("z/a.m", "1", "b/a.m", "22", "a/a.m", "333"), []api.Package{pack("m", "z", "b", "none"), pack("z", "a"), pack("b", "m"), pack("a"), pack("c")}, 0, "1:m1:5:m/a.m0:3:1:a1:5:a/a.m3:3331:b1:5:b/a.m2:221:z1:5:z/a.m1:1"},
		{of(), []api.Package{pack("m", "m")}, 0, "1:m1:5:m/a.m0:0:"},
		{of(), []api.Package{pack("m", "b"), pack("b", "m")}, 1, "1:b1:5:b/a.m0:1:1:m1:5:m/a.m0:"},
		{of("b/a.m", "z"), []api.Package{pack("m", "b"), pack("b"), {Dir: "b"}}, 0, "1:m1:5:m/a.m0:1:1:b1:5:b/a.m1:z"},
		{of("b/a.m", "z"), []api.Package{pack("b"), pack("b", "b")}, 1, "1:b1:5:b/a.m1:z1:1:b1:5:b/a.m1:z"},
		{of("b/a.m", "z"), []api.Package{pack("b", "c"), pack("c", "b")}, 0, "1:b1:5:b/a.m1:z1:1:c1:5:c/a.m0:"},
	} {
		if key, ok := buildkey.Key(x.t, x.l, x.k); key != x.want || !ok {
			t.Errorf("Key %d: %q, %t, want %q", i, key, ok, x.want)
		}
	}
	for _, k := range []int{-1, 1, 1 << 40} {
		if key, ok := buildkey.Key(of(), []api.Package{pack("m")}, k); key != "" || ok {
			t.Errorf("Key(%d): %q, %t", k, key, ok)
		}
	}
}

func TestP21_2_Keys(t *testing.T) {
	tree := of("a/a.m", "1", "b/a.m", "2")
	l := []api.Package{pack("b", "a"), pack("a"), pack("c", "b")}
	keys, ok := buildkey.Keys(tree, l)
	if !ok || len(keys) != 3 {
		t.Fatalf("Keys: %q, %t", keys, ok)
	}
	for k, key := range keys {
		if want, _ := buildkey.Key(tree, l, k); key != want {
			t.Errorf("key %d: %q, want %q", k, key, want)
		}
	}
	if keys, ok := buildkey.Keys(tree, append(l, pack("a"))); ok || len(keys) != 0 {
		t.Errorf("a directory that occurs twice: %q, %t", keys, ok)
	}
	if keys, ok := buildkey.Keys(tree, nil); !ok || len(keys) != 0 {
		t.Errorf("no packages: %q, %t", keys, ok)
	}
}

// meaning is what the key of a package must tell.
func meaning(tree api.Tree, l []api.Package, k int) string {
	s := fmt.Sprintf("%q", l[k].Dir)
	show := func(p api.Package) string {
		r := fmt.Sprintf("%q", p.Dir)
		for _, f := range tree.Files {
			if strings.HasPrefix(f.Path, p.Dir+"/") && strings.HasSuffix(f.Path, ".m") && strings.Count(f.Path, "/") == strings.Count(p.Dir, "/")+1 {
				r += fmt.Sprintf("%q", f)
			}
		}
		return r
	}
	s += show(l[k])
	for _, i := range depgraph.Deps(l, k) {
		s += show(l[i])
	}
	return s
}

func TestP21_3_Same(t *testing.T) {
	r := rand.New(rand.NewSource(21))
	byKey, byMeaning := map[string]string{}, map[string]string{}
	for range 3000 {
		var tree api.Tree
		for _, p := range []string{"a/a.m", "a/b.m", "a/c.txt", "b/a.m", "b/x/a.m", "c/a.m"} {
			if r.Intn(3) > 0 {
				tree.Files = append(tree.Files, api.Entry{Path: p, Content: []string{"", " ", `import "b";`, `import "c";`, `import "b/x";`}[r.Intn(5)]})
			}
		}
		var l []api.Package
		for _, d := range loader.Dirs(tree) {
			p, issue := loader.Load(tree, d)
			if issue == (api.Issue{}) {
				l = append(l, p)
			}
		}
		for k := range l {
			key, ok := buildkey.Key(tree, l, k)
			m := meaning(tree, l, k)
			if old, was := byKey[key]; !ok || was && old != m {
				t.Fatalf("%q stands for %s and %s", key, old, m)
			}
			if old, was := byMeaning[m]; was && old != key {
				t.Fatalf("%s has the keys %q and %q", m, old, key)
			}
			byKey[key], byMeaning[m] = m, key
		}
	}
	// Other files do not matter.
	l := []api.Package{pack("m", "b"), pack("b"), pack("c", "m")}
	a, _ := buildkey.Key(of("b/a.m", "1", "m/a.m", "2"), l, 0)
	b, _ := buildkey.Key(of("b/a.m", "1", "b/a.txt", "x", "c/a.m", "5", "m/a", "", "m/a.m", "2", "m/x/a.m", "7"), append(l, pack("d")), 0)
	c, _ := buildkey.Key(of("b/a.m", "3", "m/a.m", "2"), l, 0)
	if a != b || a == c {
		t.Errorf("%q, %q, %q", a, b, c)
	}
	before := pack("m", "b")
	buildkey.Keys(of(), []api.Package{before})
	if !reflect.DeepEqual(before, pack("m", "b")) {
		t.Error("Keys changes its argument")
	}
}
