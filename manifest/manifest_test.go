package manifest_test

import (
	"fmt"
	"math/rand"
	"reflect"
	"strings"
	"testing"

	"classroom/api"
	"classroom/manifest"
)

func TestP18_1_IsTask(t *testing.T) {
	for s, want := range map[string]bool{
		"a": true, "hw1": true, "a-b-": true, strings.Repeat("a", 24): true, "z9": true,
		"": false, "1a": false, "-a": false, "A": false, "aB": false, "a_b": false, "a.b": false, "a b": false, "ä": false, strings.Repeat("a", 25): false, "a\n": false, "a/b": false,
	} {
		if manifest.IsTask(s) != want {
			t.Errorf("IsTask(%q) is not %t", s, want)
		}
	}
}

func good() api.Manifest {
	return api.Manifest{Name: "hw1", Protect: []string{"lib", "a/b.m"}, Allow: []string{"lib"}, Pins: []api.Pin{{Path: "readme", Digest: 1<<32 - 1}, {Path: "x"}}, Bounds: api.Bounds{Fuel: 1000, Calls: 20, Heap: 100}, Tests: []api.Test{{Dir: "tests", Name: "TestAdd", Points: 5}, {Dir: "tests", Name: "größe", Points: 0}, {Dir: "t/x", Name: "TestAdd", Points: 1000}}}
}

func paths(n int) []string {
	l := make([]string, n)
	for i := range l {
		l[i] = "p"
	}
	return l
}

func tests(n int) []api.Test {
	l := make([]api.Test, n)
	for i := range l {
		l[i] = api.Test{Dir: "t", Name: fmt.Sprint("t", i)}
	}
	return l
}

func TestP18_1_Check(t *testing.T) {
	for i, x := range []struct {
		change func(m *api.Manifest)
		want   api.Errno
	}{
		{func(m *api.Manifest) {}, api.OK}, {func(m *api.Manifest) { *m = api.Manifest{Name: "a"} }, api.OK},
		{func(m *api.Manifest) { m.Name = "A" }, api.ErrName}, {func(m *api.Manifest) { m.Name, m.Protect = "", paths(65) }, api.ErrName},
		{func(m *api.Manifest) { m.Protect = paths(65) }, api.ErrLong}, {func(m *api.Manifest) { m.Allow = paths(65) }, api.ErrLong}, {func(m *api.Manifest) { m.Pins = make([]api.Pin, 65) }, api.ErrLong}, {func(m *api.Manifest) { m.Tests = tests(33) }, api.ErrLong}, {func(m *api.Manifest) { m.Tests, m.Bounds.Fuel = tests(33), -1 }, api.ErrLong},
		{func(m *api.Manifest) { m.Protect, m.Allow, m.Tests = paths(64), paths(64), tests(32) }, api.OK},
		{func(m *api.Manifest) { m.Bounds.Fuel = -1 }, api.ErrRange}, {func(m *api.Manifest) { m.Bounds.Calls = -1 }, api.ErrRange}, {func(m *api.Manifest) { m.Bounds.Heap = -1 }, api.ErrRange}, {func(m *api.Manifest) { m.Bounds.Fuel = api.MaxFuel + 1 }, api.ErrRange}, {func(m *api.Manifest) { m.Bounds.Calls = api.MaxCalls + 1 }, api.ErrRange}, {func(m *api.Manifest) { m.Bounds.Heap = api.MaxHeap + 1 }, api.ErrRange}, {func(m *api.Manifest) {
			m.Bounds = api.Bounds{Fuel: api.MaxFuel, Calls: api.MaxCalls, Heap: api.MaxHeap}
		}, api.OK}, {func(m *api.Manifest) { m.Bounds.Heap, m.Protect = -1, []string{""} }, api.ErrRange},
		{func(m *api.Manifest) { m.Protect[1] = "A" }, api.ErrPath}, {func(m *api.Manifest) { m.Allow[0] = "" }, api.ErrPath}, {func(m *api.Manifest) { m.Pins[1].Path = "a/" }, api.ErrPath}, {func(m *api.Manifest) { m.Pins[1].Path, m.Tests[0].Name = "a//b", "1" }, api.ErrPath},
		{func(m *api.Manifest) { m.Tests[0].Dir = "" }, api.ErrPath}, {func(m *api.Manifest) { m.Tests[0].Dir, m.Tests[0].Name = "", "" }, api.ErrPath}, {func(m *api.Manifest) { m.Tests[1].Name = "if" }, api.ErrName}, {func(m *api.Manifest) { m.Tests[1].Name, m.Tests[1].Points = "a-b", -1 }, api.ErrName}, {func(m *api.Manifest) { m.Tests[2].Points = -1 }, api.ErrRange}, {func(m *api.Manifest) { m.Tests[2].Points = 1001 }, api.ErrRange}, {func(m *api.Manifest) { m.Tests[1] = m.Tests[0] }, api.ErrTwice}, {func(m *api.Manifest) { m.Tests[1] = m.Tests[0]; m.Tests[1].Points = 7 }, api.ErrTwice}, {func(m *api.Manifest) { m.Tests[1] = m.Tests[0]; m.Tests[1].Points = -7 }, api.ErrRange}, {func(m *api.Manifest) { m.Tests[2] = m.Tests[0]; m.Tests[1].Points = -1 }, api.ErrRange}, {func(m *api.Manifest) { m.Tests[1] = m.Tests[0]; m.Tests[2].Dir = "" }, api.ErrTwice},
		{func(m *api.Manifest) { m.Protect = []string{"a", "a", "a/b"} }, api.OK}, {func(m *api.Manifest) { m.Pins[1] = m.Pins[0] }, api.OK},
	} {
		m := good()
		x.change(&m)
		if e := manifest.Check(m); e != x.want {
			t.Errorf("Check %d: %d, want %d", i, e, x.want)
		}
		s, e := manifest.Format(m)
		if e != x.want || (s == "") != (e != api.OK) {
			t.Errorf("Format %d: %q, %d, want %d", i, s, e, x.want)
		}
	}
}

const text = "task hw1\nbounds 1000 20 100\nprotect lib\nprotect a/b.m\nallow lib\npin readme 4294967295\npin x 0\ntest tests TestAdd 5\ntest tests größe 0\ntest t/x TestAdd 1000\n"

func TestP18_3_Format(t *testing.T) {
	if s, e := manifest.Format(good()); s != text || e != api.OK {
		t.Errorf("Format: %q, %d", s, e)
	}
	if s, e := manifest.Format(api.Manifest{Name: "a"}); s != "task a\nbounds 0 0 0\n" || e != api.OK {
		t.Errorf("Format: %q, %d", s, e)
	}
	m := api.Manifest{Name: "a", Protect: paths(64), Allow: paths(64), Pins: make([]api.Pin, 64), Tests: tests(32)}
	for i := range m.Pins {
		m.Pins[i].Path = "p"
	}
	if _, e := manifest.Format(m); e != api.OK {
		t.Errorf("226 lines: %d", e)
	}
	long := strings.Repeat("12345678901234567890/", 3) + "a"
	for i := range m.Protect {
		m.Protect[i], m.Allow[i] = long, long
	}
	if s, e := manifest.Format(m); s != "" || e != api.ErrLong {
		t.Errorf("more than MaxText bytes: %d bytes, %d", len(s), e)
	}
	m = api.Manifest{Name: "a", Protect: paths(64), Allow: paths(50)}
	for i := range m.Protect {
		m.Protect[i], m.Allow[min(i, 48)] = long, long
	}
	for n, want := range map[int]api.Errno{14: api.OK, 15: api.ErrLong} {
		m.Allow[49] = strings.Repeat("x", n)
		if s, e := manifest.Format(m); e != want || e == api.OK && len(s) != api.MaxText {
			t.Errorf("about MaxText bytes: %d, %d", len(s), e)
		}
	}
}

func TestP18_2_Parse(t *testing.T) {
	m, line, e := manifest.Parse(text)
	if !reflect.DeepEqual(m, good()) || line != 0 || e != api.OK {
		t.Errorf("Parse: %v, %d, %d", m, line, e)
	}
	m, line, e = manifest.Parse("task hw1\npin readme 4294967295\ntest tests TestAdd 5\nprotect lib\ntest tests größe 0\nallow lib\npin x 0\nbounds 1000 20 100\ntest t/x TestAdd 1000\nprotect a/b.m\n")
	if !reflect.DeepEqual(m, good()) || line != 0 || e != api.OK {
		t.Errorf("Parse in another order: %v, %d, %d", m, line, e)
	}
	m, _, e = manifest.Parse("task a\nbounds 1048576 256 65536\n")
	if e != api.OK || m.Bounds != (api.Bounds{Fuel: 1048576, Calls: 256, Heap: 65536}) {
		t.Errorf("the greatest bounds: %v, %d", m, e)
	}
}

func TestP18_2_Errors(t *testing.T) {
	const head = "task a\nbounds 1 2 3\n"
	for s, want := range map[string]int{
		"": 1, "task a\n": 2, "task a": 1, "task a\nprotect b\n": 3, "\n": 1, "bounds 1 2 3\n": 1, "protect a\ntask a\n": 1, "task a\ntask a\n": 2, "task a b\n": 1, "task\n": 1, " task a\n": 1, "task a \n": 1, "task  a\n": 1, "Task a\n": 1, "task a\r\n": 1, "task a\tb\n": 1, "task a\x00\n": 1, "bounds 1 2 3\ntask a\n": 1,
		head + "bounds 1 2 3\n": 3, head + "bounds 1 2\n": 3, "task a\nbounds 1 2\n": 2, "task a\nbounds 1 2 3 4\n": 2, "task a\nbounds 1 2 x\n": 2, "task a\nbounds 1 2 \n": 2, "task a\nbounds 01 2 3\n": 2, "task a\nbounds 1 00 3\n": 2, "task a\nbounds -1 2 3\n": 2, "task a\nbounds +1 2 3\n": 2, "task a\nbounds 4294967296 2 3\n": 2, "task a\nbounds 1 2 99999999999\n": 2, "task a\nbounds 1  2 3\n": 2, "task a\nbounds 1 2 0x3\n": 2, "task a\nbounds 1 2 1_0\n": 2,
		head + "\n": 3, head + "protect\n": 3, head + "protect a b\n": 3, head + "allow\n": 3, head + "allow a b\n": 3, head + "pin a\n": 3, head + "pin a 4294967296\n": 3, head + "pin a b\n": 3, head + "pin a 1 2\n": 3, head + "pin a 01\n": 3, head + "pin a \n": 3, head + "test a b\n": 3, head + "test a b 1 2\n": 3, head + "test a b c\n": 3, head + "test a b -1\n": 3, head + "test a b 4294967296\n": 3, head + "protect a": 3, head + "x": 3, head + "other a\n": 3, head + "protect\ta\n": 3, head + "protect a\x1f\n": 3, head + "Protect a\n": 3, head + "protect \n" + "protect": 4, head + "test a b\x0b 1\n": 3,
		"task A\nx\n": 2, "task A\nbounds 1 2 3\ntask a\n": 3,
	} {
		m, line, e := manifest.Parse(s)
		if !reflect.DeepEqual(m, api.Manifest{}) || line != want || e != api.ErrSyntax {
			t.Errorf("Parse(%q): %v, %d, %d, want %d", s, m, line, e, want)
		}
	}
	for s, want := range map[string]api.Errno{
		"task A\nbounds 1 2 3\n": api.ErrName, "task \nbounds 1 2 3\n": api.ErrName, "task ä\nbounds 1 2 3\n": api.ErrName, "task a\nbounds 4294967295 2 3\n": api.ErrRange, "task a\nbounds 1 257 3\n": api.ErrRange, head + "protect \n": api.ErrPath, head + "allow A\n": api.ErrPath, head + "pin a/ 1\n": api.ErrPath, head + "test  b 1\n": api.ErrPath, head + "test a  1\n": api.ErrName, head + "test a b 1001\n": api.ErrRange, head + "test a b 1\ntest a b 2\n": api.ErrTwice, head + strings.Repeat("protect a\n", 65): api.ErrLong, head + "protect \xff\n": api.ErrPath, head + "test a ä\x7f 1\n": api.ErrName,
	} {
		m, line, e := manifest.Parse(s)
		if !reflect.DeepEqual(m, api.Manifest{}) || line != 0 || e != want {
			t.Errorf("Parse(%q): %v, %d, %d, want %d", s, m, line, e, want)
		}
	}
}

func TestP18_2_Long(t *testing.T) {
	for i, x := range []struct {
		s    string
		line int
		want api.Errno
	}{
		{strings.Repeat("x", api.MaxText), 1, api.ErrSyntax}, {strings.Repeat("x", api.MaxText+1), 0, api.ErrLong}, {strings.Repeat("\n", 256), 1, api.ErrSyntax}, {strings.Repeat("\n", 257), 0, api.ErrLong}, {strings.Repeat("\n", 256) + "x", 0, api.ErrLong}, {strings.Repeat("\n", 255) + "x", 1, api.ErrSyntax},
		{"task a\n" + strings.Repeat("protect a\n", 255), 257, api.ErrSyntax}, {"task a\nbounds 1 2 3\n" + strings.Repeat("protect a\n", 254), 0, api.ErrLong},
	} {
		if _, line, e := manifest.Parse(x.s); line != x.line || e != x.want {
			t.Errorf("Parse %d: %d, %d, want %d, %d", i, line, e, x.line, x.want)
		}
	}
}

func TestP18_4_Inverse(t *testing.T) {
	r := rand.New(rand.NewSource(18))
	for range 2000 {
		m := api.Manifest{Name: []string{"a", "b-2"}[r.Intn(2)], Bounds: api.Bounds{Fuel: r.Intn(api.MaxFuel + 1), Calls: r.Intn(api.MaxCalls + 1), Heap: r.Intn(api.MaxHeap + 1)}}
		for range r.Intn(4) {
			m.Protect = append(m.Protect, []string{"a", "b/c", "x.m"}[r.Intn(3)])
		}
		for range r.Intn(4) {
			m.Allow = append(m.Allow, []string{"a", "b/c", "x.m"}[r.Intn(3)])
		}
		for range r.Intn(4) {
			m.Pins = append(m.Pins, api.Pin{Path: []string{"a", "b/c"}[r.Intn(2)], Digest: r.Uint32()})
		}
		for i := range r.Intn(4) {
			m.Tests = append(m.Tests, api.Test{Dir: "t", Name: fmt.Sprint("x", i), Points: r.Intn(1001)})
		}
		s, e := manifest.Format(m)
		got, line, f := manifest.Parse(s)
		if e != api.OK || f != api.OK || line != 0 || !reflect.DeepEqual(got, m) {
			t.Fatalf("%q: %v, %d, %d, %d", s, got, line, e, f)
		}
	}
}
