package path_test

import (
	"math/rand"
	"strings"
	"testing"

	"classroom/api"
	"classroom/path"
)

var (
	long24 = strings.Repeat("x", api.MaxName)
	parts8 = "a/b/c/d/e/f/g/h"
	long64 = strings.Repeat("12345678901234567890/", 3) + "a"  // 64 bytes
	long65 = strings.Repeat("12345678901234567890/", 3) + "ab" // 65 bytes
)

func TestP3_1_Normalize(t *testing.T) {
	for s, want := range map[string]string{
		"a": "a", "a/b": "a/b", "a//b/./../c": "a/c", "./a": "a", "a/": "a", "a/.": "a", "a/b/..": "a", "a/../b": "b", "...": "...", "..a": "..a", ".x": ".x", "a.": "a.",
		"az09-_.": "az09-_.", long24: long24, parts8: parts8, long64: long64, parts8 + "/i/..": parts8, "a/b/c/d/e/f/g/h/i/j/../..": parts8,
		long65 + "/../c": strings.Repeat("12345678901234567890/", 3) + "c", "./././a": "a", "a/b/c/../../d": "a/d",
	} {
		if p, e := path.Normalize(s); p != want || e != api.OK {
			t.Errorf("Normalize(%q): %q, %d", s, p, e)
		}
	}
}

func TestP3_1_Errors(t *testing.T) {
	for s, want := range map[string]api.Errno{
		"": api.ErrPath, "/": api.ErrPath, "/a": api.ErrPath, ".": api.ErrPath, "..": api.ErrPath, "a/..": api.ErrPath, "a/../..": api.ErrPath, "../a": api.ErrPath, "./": api.ErrPath,
		"A": api.ErrPath, "a b": api.ErrPath, "a\\b": api.ErrPath, "é": api.ErrPath, "a\x00": api.ErrPath, "a/\xff": api.ErrPath, "a:": api.ErrPath, "a{": api.ErrPath, "`": api.ErrPath,
		long24 + "x": api.ErrPath, long24 + "x/..": api.ErrPath, "a/" + long24 + "y/b": api.ErrPath,
		parts8 + "/i": api.ErrLong, long65: api.ErrLong, parts8 + "/i/A": api.ErrPath, long65 + "/A": api.ErrPath, "/" + long65: api.ErrPath,
		parts8 + "/i/../../../../../../../../..": api.ErrPath,
	} {
		if p, e := path.Normalize(s); p != "" || e != want {
			t.Errorf("Normalize(%q): %q, %d, want %d", s, p, e, want)
		}
	}
}

func TestP3_1_AllBytes(t *testing.T) {
	const good = "abcdefghijklmnopqrstuvwxyz0123456789-_"
	for c := range 256 {
		s := string([]byte{'a', byte(c)})
		_, e := path.Normalize(s)
		want := strings.IndexByte(good+"./", byte(c)) >= 0
		if (e == api.OK) != want {
			t.Errorf("Normalize(%q): %d", s, e)
		}
	}
}

func TestP3_2_Valid(t *testing.T) {
	for s, want := range map[string]bool{
		"a": true, "a/b.m": true, parts8: true, long64: true, "...": true, long24: true,
		"": false, ".": false, "..": false, "a/": false, "/a": false, "a//b": false, "./a": false, "a/..": false, "a/b/..": false, "A": false, long65: false, parts8 + "/i": false, long24 + "x": false, "a/./b": false,
	} {
		if path.Valid(s) != want {
			t.Errorf("Valid(%q) is not %t", s, want)
		}
	}
}

func TestP3_3_Parts(t *testing.T) {
	for _, x := range [][3]string{
		{"a/b/c", "a/b", "c"}, {"a", "", "a"}, {"", "", ""}, {"/", "", ""}, {"/a", "", "a"}, {"a/", "a", ""}, {"//", "/", ""}, {"A b/\xff", "A b", "\xff"}, {"..", "", ".."},
	} {
		if path.Dir(x[0]) != x[1] || path.Base(x[0]) != x[2] {
			t.Errorf("%q: %q, %q", x[0], path.Dir(x[0]), path.Base(x[0]))
		}
	}
	for _, x := range [][3]string{
		{"a", "b", "a/b"}, {"", "b", "b"}, {"a", "", "a/"}, {"", "", ""}, {"/", "/", "///"}, {"a/b", "..", "a/b/.."},
	} {
		if got := path.Join(x[0], x[1]); got != x[2] {
			t.Errorf("Join(%q, %q): %q", x[0], x[1], got)
		}
	}
}

func TestP3_4_Under(t *testing.T) {
	for _, x := range []struct {
		s, dir string
		want   bool
	}{
		{"a/b", "a", true}, {"a", "a", true}, {"a/b/c", "a", true}, {"a/b/c", "a/b", true}, {"ab", "a", false}, {"a", "ab", false}, {"a", "a/b", false}, {"a-b/c", "a", false},
		{"", "", true}, {"a", "", true}, {"/", "", true}, {"", "a", false}, {"a/", "a", true}, {"a/b", "a/", false}, {"a//b", "a/", true}, {"a/", "a/", true}, {"A\xff/x", "A\xff", true},
	} {
		if path.Under(x.s, x.dir) != x.want {
			t.Errorf("Under(%q, %q) is not %t", x.s, x.dir, x.want)
		}
	}
}

func TestP3_5_Properties(t *testing.T) {
	r := rand.New(rand.NewSource(5))
	words := []string{"", ".", "..", "a", "b", "...", "A", "long-name_1.m", long24, long24 + "x"}
	for range 20000 {
		l := make([]string, 1+r.Intn(11))
		for i := range l {
			l[i] = words[r.Intn(len(words)-r.Intn(4))]
		}
		s := strings.Join(l, "/")
		p, e := path.Normalize(s)
		if (e == api.OK && p == s) != path.Valid(s) {
			t.Fatalf("Valid(%q): %q, %d", s, p, e)
		}
		if e != api.OK {
			continue
		}
		if q, e := path.Normalize(p); q != p || e != api.OK || !path.Valid(p) {
			t.Fatalf("Normalize(%q): %q, %d", p, q, e)
		}
		if path.Join(path.Dir(p), path.Base(p)) != p {
			t.Fatalf("Join(Dir, Base) of %q", p)
		}
	}
}
