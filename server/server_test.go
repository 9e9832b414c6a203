package server_test

import (
	"fmt"
	"math/rand"
	"reflect"
	"strings"
	"testing"

	"classroom/api"
	"classroom/digest"
	"classroom/grader"
	"classroom/queue"
	"classroom/server"
	"classroom/view"
)

func of(l ...string) api.Tree {
	var t api.Tree
	for i := 0; i+1 < len(l); i += 2 {
		t.Files = append(t.Files, api.Entry{Path: l[i], Content: l[i+1]})
	}
	return t
}

func same(a, b api.Tree) bool {
	return len(a.Files) == 0 && len(b.Files) == 0 || reflect.DeepEqual(a.Files, b.Files)
}

func course(t *testing.T, queue int) *server.Server {
	t.Helper()
	s, e := server.New(8, 8, queue)
	if e != api.OK || s == nil {
		t.Fatal(e)
	}
	return s
}

const (
	right  = "func add(a int, b int) int { return a + b; }"
	wrong  = "func add(a int, b int) int { return 0; }"
	tests  = `import "work"; func one() bool { return work.add(1, 2) == 3; } func two() bool { return work.add(0, 0) == 0; }`
	harder = `import "work"; func one() bool { return work.add(1, 2) == 3; } func two() bool { return work.add(0, 0) == 1; }`
)

func text(name string) string {
	return "task " + name + "\nbounds 100 10 10\nprotect lib\ntest tests one 5\ntest tests two 3\n"
}

func enroll(name string, role int) api.Command {
	return api.Command{Kind: api.CmEnroll, Actor: "root", User: name, Role: role}
}

func publish(name string) api.Command {
	return api.Command{Kind: api.CmPublish, Actor: "root", Text: text(name), Tree: of("readme", "x", "work/a.m", wrong), Other: of("tests/a.m", tests)}
}

func submit(actor, task, content string) api.Command {
	return api.Command{Kind: api.CmSubmit, Actor: actor, Task: task, Tree: of("work/a.m", content)}
}

func step() api.Command { return api.Command{Kind: api.CmStep, Actor: "root"} }

func look(actor, task string) api.Command {
	return api.Command{Kind: api.CmView, Actor: actor, Task: task}
}

// must executes commands that have no error.
func must(t *testing.T, s *server.Server, l ...api.Command) {
	t.Helper()
	for _, c := range l {
		if r := s.Do(c); r.Err != api.OK {
			t.Fatalf("%+v: %d", c, r.Err)
		}
	}
}

// full has two students and the tasks hw and lab.
func full(t *testing.T, queue int) *server.Server {
	t.Helper()
	s := course(t, queue)
	must(t, s, enroll("ann", api.Student), enroll("bob", api.Student), publish("lab"), publish("hw"))
	return s
}

// stateOf writes what the methods return, so that it cannot share memory with the server.
func stateOf(s *server.Server) string {
	x := fmt.Sprintf("%+v %+v %+v %+v", s.Users(), s.Tasks(), s.Marks(), s.Queue())
	for _, m := range s.Marks() {
		t, ok := s.Submission(m.Pair)
		x += fmt.Sprintf("%+v %t", t, ok)
	}
	return x
}

func pair(student, task string) api.Pair { return api.Pair{Student: student, Task: task} }

func TestP30_1_New(t *testing.T) {
	for _, x := range [][3]int{{0, 8, 8}, {33, 8, 8}, {8, -1, 8}, {8, 33, 8}, {8, 8, 0}, {8, 8, -1}, {8, 8, api.MaxQueue + 1}} {
		if s, e := server.New(x[0], x[1], x[2]); s != nil || e != api.ErrRange {
			t.Errorf("New%v: %v, %d", x, s, e)
		}
	}
	for _, x := range [][3]int{{1, 0, 1}, {32, 32, api.MaxQueue}} {
		s, e := server.New(x[0], x[1], x[2])
		if e != api.OK || !reflect.DeepEqual(s.Users(), []api.User{{Name: "root", Role: api.Instructor}}) || len(s.Tasks())+len(s.Marks())+len(s.Queue()) != 0 {
			t.Errorf("New%v: %d", x, e)
		}
	}
	for i, s := range []*server.Server{nil, {}} {
		f := s.Fork()
		files, ok := s.Submission(api.Pair{})
		if r := s.Do(step()); !reflect.DeepEqual(r, api.Reply{Err: api.ErrDead}) || s.Do(api.Command{}).Err != api.ErrDead || len(s.Users())+len(s.Tasks())+len(s.Marks())+len(s.Queue())+len(files.Files) != 0 || ok || (f == nil) != (s == nil) || f.Do(step()).Err != api.ErrDead {
			t.Errorf("server %d", i)
		}
	}
}

func TestP30_2_Errors(t *testing.T) {
	s := full(t, 2)
	must(t, s, enroll("eve", api.Student), enroll("tom", api.Instructor), submit("ann", "hw", right), submit("bob", "hw", right))
	before := stateOf(s)
	for i, x := range []struct {
		c    api.Command
		want api.Errno
	}{
		{api.Command{}, api.ErrRange}, {api.Command{Kind: 7, Actor: "none"}, api.ErrRange}, {api.Command{Kind: -1, Actor: "root"}, api.ErrRange}, {api.Command{Kind: api.CmView}, api.ErrUser}, {api.Command{Kind: api.CmEnroll, Actor: "none"}, api.ErrUser}, {api.Command{Kind: api.CmStep, Actor: ""}, api.ErrUser},
		{api.Command{Kind: api.CmEnroll, Actor: "ann", User: ""}, api.ErrRole}, {enroll("", 1), api.ErrName}, {enroll("new", 3), api.ErrRange}, {enroll("ann", 1), api.ErrTwice}, {enroll("root", 1), api.ErrTwice},
		{api.Command{Kind: api.CmPublish, Actor: "ann"}, api.ErrRole}, {api.Command{Kind: api.CmPublish, Actor: "root"}, api.ErrSyntax}, {api.Command{Kind: api.CmPublish, Actor: "root", Text: strings.Repeat("x", 8193)}, api.ErrLong}, {api.Command{Kind: api.CmPublish, Actor: "root", Text: "task A\nbounds 1 1 1\n", Tree: of("A", "")}, api.ErrName}, {api.Command{Kind: api.CmPublish, Actor: "root", Text: text("x"), Tree: of("A", "")}, api.ErrPath}, {api.Command{Kind: api.CmPublish, Actor: "root", Text: text("x"), Other: of("a", "", "a/b", "")}, api.ErrClash}, {api.Command{Kind: api.CmPublish, Actor: "root", Text: text("x") + "pin a 1\n"}, api.ErrPin},
		{api.Command{Kind: api.CmSubmit, Actor: "root", Task: "none"}, api.ErrRole}, {api.Command{Kind: api.CmSubmit, Actor: "tom", Task: "hw"}, api.ErrRole}, {submit("eve", "none", ""), api.ErrNone}, {submit("eve", "", ""), api.ErrNone}, {api.Command{Kind: api.CmSubmit, Actor: "eve", Task: "hw", Tree: of("A", "")}, api.ErrPath}, {api.Command{Kind: api.CmSubmit, Actor: "eve", Task: "none", Tree: of("A", "")}, api.ErrNone}, {api.Command{Kind: api.CmSubmit, Actor: "eve", Task: "hw", Tree: of("a", strings.Repeat("x", 4096), "b", strings.Repeat("x", 4096))}, api.ErrLong}, {submit("eve", "hw", ""), api.ErrFull}, {submit("ann", "lab", ""), api.ErrFull},
		{api.Command{Kind: api.CmStep, Actor: "ann"}, api.ErrRole}, {api.Command{Kind: api.CmEvict, Actor: "ann", Number: -1}, api.ErrRole}, {api.Command{Kind: api.CmEvict, Actor: "root", Number: -1}, api.ErrRange}, {look("root", "none"), api.ErrNone}, {look("ann", ""), api.ErrNone}, {look("ann", "HW"), api.ErrNone},
	} {
		if r := s.Do(x.c); !reflect.DeepEqual(r, api.Reply{Err: x.want}) {
			t.Errorf("command %d: %+v, want %d", i, r, x.want)
		}
	}
	if stateOf(s) != before {
		t.Error("a command with an error changes the state")
	}
}

func TestP30_2_Enroll(t *testing.T) {
	s := course(t, 4)
	must(t, s, enroll("zoe", api.Instructor), enroll("ann", api.Student), api.Command{Kind: api.CmEnroll, Actor: "zoe", User: "bob", Role: api.Student, Task: "x", Text: "y", Number: -1, Tree: of("A", "")})
	want := []api.User{{Name: "ann", Role: 1}, {Name: "bob", Role: 1}, {Name: "root", Role: 2}, {Name: "zoe", Role: 2}}
	if !reflect.DeepEqual(s.Users(), want) {
		t.Errorf("%v", s.Users())
	}
	for i := range 28 {
		must(t, s, enroll(fmt.Sprint("u", i), api.Student))
	}
	if r := s.Do(enroll("more", api.Student)); r.Err != api.ErrLong {
		t.Errorf("MaxUsers: %d", r.Err)
	}
}

func TestP30_2_SubmitAndStep(t *testing.T) {
	s := full(t, 4)
	if r := s.Do(step()); !reflect.DeepEqual(r, api.Reply{}) {
		t.Errorf("step with an empty queue: %+v", r)
	}
	must(t, s, submit("bob", "hw", right), submit("ann", "lab", wrong), submit("ann", "hw", "#"))
	if !reflect.DeepEqual(s.Queue(), []api.Pair{pair("bob", "hw"), pair("ann", "lab"), pair("ann", "hw")}) {
		t.Errorf("the queue: %v", s.Queue())
	}
	must(t, s, submit("bob", "hw", wrong), submit("bob", "hw", right))
	if len(s.Queue()) != 3 || s.Queue()[0] != pair("bob", "hw") {
		t.Errorf("the queue after a new submission: %v", s.Queue())
	}
	if files, ok := s.Submission(pair("bob", "hw")); !ok || !same(files, of("work/a.m", right)) {
		t.Errorf("the submission: %v", files)
	}
	if files, ok := s.Submission(pair("bob", "lab")); ok || len(files.Files) != 0 {
		t.Errorf("no submission: %v", files)
	}
	if m := s.Marks()[1]; m.Pair != pair("bob", "hw") || m.Version != 3 || !m.Pending {
		t.Errorf("the mark: %+v", m)
	}
	for range 3 {
		if r := s.Do(step()); !reflect.DeepEqual(r, api.Reply{Done: true}) {
			t.Errorf("step: %+v", r)
		}
	}
	want := []api.Mark{
		{Pair: pair("ann", "hw"), Version: 1, Grade: api.Grade{Kind: api.GrBuild, Issue: api.Issue{Err: api.ErrToken, Path: "work/a.m"}}},
		{Pair: pair("bob", "hw"), Version: 3, Grade: api.Grade{Kind: api.GrScore, Score: 8, Verdicts: []int{1, 1}}},
		{Pair: pair("ann", "lab"), Version: 1, Grade: api.Grade{Kind: api.GrScore, Score: 3, Verdicts: []int{2, 1}}},
	}
	if !reflect.DeepEqual(s.Marks(), want) || len(s.Queue()) != 0 {
		t.Errorf("the marks: %+v", s.Marks())
	}
	must(t, s, api.Command{Kind: api.CmSubmit, Actor: "ann", Task: "hw", Tree: of("lib/x", "")})
	if m := s.Marks()[0]; !m.Pending || m.Version != 2 || !grader.Same(m.Grade, api.Grade{}) {
		t.Errorf("after a new submission: %+v", m)
	}
	must(t, s, step())
	if g := s.Marks()[0].Grade; g.Kind != api.GrPolicy || g.Issue != (api.Issue{Err: api.ErrPolicy, Path: "lib/x"}) {
		t.Errorf("the policy: %+v", g)
	}
}

func TestP30_2_Publish(t *testing.T) {
	s := full(t, 4)
	if l := s.Tasks(); len(l) != 2 || l[0].Manifest.Name != "hw" || l[1].Manifest.Name != "lab" || !same(l[0].Starter, of("readme", "x", "work/a.m", wrong)) || !same(l[0].Hidden, of("tests/a.m", tests)) || len(l[0].Manifest.Tests) != 2 {
		t.Errorf("the tasks: %v", s.Tasks())
	}
	must(t, s, submit("bob", "hw", right), submit("ann", "hw", "#"), submit("bob", "lab", right), step(), step(), step())
	before := s.Marks()
	// Files that are no sources change no grade.
	c := publish("hw")
	c.Tree.Files[0].Content = "another text"
	must(t, s, c)
	if !reflect.DeepEqual(s.Marks(), before) || len(s.Queue()) != 0 || s.Tasks()[0].Starter.Files[0].Content != "another text" {
		t.Error("another readme")
	}
	c.Other = of("tests/a.m", harder)
	must(t, s, c)
	if !reflect.DeepEqual(s.Queue(), []api.Pair{pair("ann", "hw"), pair("bob", "hw")}) || !s.Marks()[0].Pending || !s.Marks()[1].Pending || s.Marks()[2].Pending || s.Marks()[1].Version != 1 {
		t.Errorf("another test: %v, %+v", s.Queue(), s.Marks())
	}
	must(t, s, step(), step())
	if m := s.Marks()[1]; m.Grade.Score != 5 {
		t.Errorf("the new grade: %+v", m)
	}
	// A change that matters for one of the submissions only.
	must(t, s, api.Command{Kind: api.CmSubmit, Actor: "ann", Task: "hw", Tree: of("other/a.m", "func f() int { return 1; }")}, step())
	c.Tree.Files[1].Content = wrong + " "
	must(t, s, c)
	if !reflect.DeepEqual(s.Queue(), []api.Pair{pair("ann", "hw")}) {
		t.Errorf("the starter of a file that bob replaces: %v", s.Queue())
	}
	// Other parts of the manifest.
	must(t, s, step())
	for i, change := range []string{"allow lib\n", "test tests three 1\n", "protect work\n"} {
		c.Text = text("hw") + change
		must(t, s, c)
		want := [][]api.Pair{{}, {pair("ann", "hw"), pair("bob", "hw")}, {pair("ann", "hw"), pair("bob", "hw")}}[i]
		if len(s.Queue()) != len(want) || len(want) > 0 && !reflect.DeepEqual(s.Queue(), want) {
			t.Errorf("%q: %v", change, s.Queue())
		}
		must(t, s, step(), step())
	}
}

func TestP30_2_PublishFull(t *testing.T) {
	s := full(t, 2)
	must(t, s, submit("ann", "hw", right), submit("bob", "hw", right), step(), step(), submit("ann", "lab", right))
	before := stateOf(s)
	c := publish("hw")
	c.Other = of("tests/a.m", harder)
	if r := s.Do(c); r.Err != api.ErrFull || stateOf(s) != before {
		t.Errorf("a full queue: %d", r.Err)
	}
	must(t, s, step(), submit("bob", "hw", right), c)
	if !reflect.DeepEqual(s.Queue(), []api.Pair{pair("bob", "hw"), pair("ann", "hw")}) {
		t.Errorf("a pair that is in the queue already: %v", s.Queue())
	}
	one := course(t, 1)
	must(t, one, publish("hw"))
	for i := range 7 {
		must(t, one, publish(fmt.Sprint("t", i)))
	}
	if r := one.Do(publish("more")); r.Err != api.ErrLong {
		t.Errorf("MaxTasks: %d", r.Err)
	}
	must(t, one, publish("t3"))
	if len(one.Tasks()) != 8 {
		t.Errorf("%d tasks", len(one.Tasks()))
	}
}

func TestP30_2_View(t *testing.T) {
	s := full(t, 4)
	must(t, s, submit("ann", "hw", right), submit("bob", "hw", right), step())
	for _, x := range []struct {
		actor string
		role  int
	}{{"root", api.Instructor}, {"ann", api.Student}, {"bob", api.Student}} {
		before := stateOf(s)
		r := s.Do(look(x.actor, "hw"))
		if r.Err != api.OK || r.Done || !view.Same(r.View, view.Make(s.Tasks()[0], s.Marks(), x.actor, x.role)) {
			t.Errorf("%s: %+v", x.actor, r)
		}
		if stateOf(s) != before {
			t.Error("CmView changes the state")
		}
	}
	if r := s.Do(look("bob", "lab")); len(r.View.Marks) != 0 || r.View.Manifest.Name != "lab" || len(r.View.Hidden.Files) != 0 {
		t.Errorf("%+v", r)
	}
	before := stateOf(s)
	for _, n := range []int{0, 1, 1 << 40} {
		if r := s.Do(api.Command{Kind: api.CmEvict, Actor: "root", Number: n, Task: "none"}); !reflect.DeepEqual(r, api.Reply{}) {
			t.Errorf("evict: %+v", r)
		}
	}
	if stateOf(s) != before {
		t.Error("CmEvict changes the state")
	}
}

func TestP30_3_Independent(t *testing.T) {
	s := full(t, 4)
	c := submit("ann", "hw", right)
	p := publish("new")
	p.Text += fmt.Sprintf("allow lib\npin readme %d\n", digest.Text("x", 32))
	must(t, s, c, step(), submit("bob", "hw", right), p)
	before := stateOf(s)
	c.Tree.Files[0].Content, p.Tree.Files[0].Content, p.Other.Files[0].Content = "z", "z", "z"
	if stateOf(s) != before {
		t.Error("the server keeps parts of commands")
	}
	l := s.Tasks()
	l[0].Manifest.Tests[0].Name, l[0].Manifest.Protect[0], l[0].Starter.Files[0].Path, l[0].Hidden.Files[0].Path = "z", "z", "z", "z"
	l[2].Manifest.Allow[0], l[2].Manifest.Pins[0].Path = "z", "z"
	s.Users()[0].Name, s.Queue()[0].Task, s.Marks()[0].Version, s.Marks()[0].Grade.Verdicts[0] = "z", "z", 99, 99
	files, _ := s.Submission(pair("ann", "hw"))
	files.Files[0].Path = "z"
	v := s.Do(look("root", "hw")).View
	v.Marks[0].Grade.Verdicts[0], v.Starter.Files[0].Path, v.Manifest.Protect[0] = 99, "z", "z"
	if stateOf(s) != before {
		t.Error("the server shares memory with its results")
	}
	f := s.Fork()
	must(t, f, step(), enroll("new", api.Student), publish("fork"), submit("ann", "hw", wrong))
	if stateOf(s) != before {
		t.Error("Fork is not independent")
	}
	after := stateOf(f)
	must(t, s, step(), enroll("new", api.Student), publish("fork"), submit("ann", "hw", wrong))
	if stateOf(s) != after {
		t.Error("Fork has another state")
	}
}

// random returns a command.
func random(r *rand.Rand) api.Command {
	users := []string{"ann", "bob", "eve", "root", "none"}
	names := []string{"hw", "lab", "none"}
	switch n := r.Intn(14); {
	case n < 1:
		return enroll(users[r.Intn(5)], 1+r.Intn(2))
	case n < 3:
		c := publish(names[r.Intn(2)])
		c.Tree.Files[0].Content = fmt.Sprint(r.Intn(3))
		c.Tree.Files[1].Content = []string{wrong, right}[r.Intn(2)]
		c.Other.Files[0].Content = []string{tests, harder, "#"}[r.Intn(3)]
		return c
	case n < 8:
		return submit(users[r.Intn(4)], names[r.Intn(3)], []string{right, wrong, "#", `import "q";`, "func add(a int, b int) int { return 3; }"}[r.Intn(5)])
	case n < 11:
		return step()
	case n < 12:
		return api.Command{Kind: api.CmEvict, Actor: "root", Number: r.Intn(4)}
	}
	return look(users[r.Intn(5)], names[r.Intn(3)])
}

func TestP30_4_Invariant(t *testing.T) {
	r := rand.New(rand.NewSource(30))
	graded := 0
	for range 30 {
		s := course(t, 3)
		must(t, s, enroll("ann", 1), enroll("bob", 1), publish("hw"))
		for range 80 {
			s.Do(random(r))
			tasks := map[string]api.Task{}
			for _, k := range s.Tasks() {
				tasks[k.Manifest.Name] = k
			}
			pending := 0
			for _, m := range s.Marks() {
				if m.Pending != queue.Has(s.Queue(), m.Pair) {
					t.Fatalf("%+v, but the queue is %v", m, s.Queue())
				}
				if m.Pending {
					pending++
					continue
				}
				graded++
				files, _ := s.Submission(m.Pair)
				if want := grader.Grade(tasks[m.Pair.Task], files, nil); !grader.Same(m.Grade, want) {
					t.Fatalf("%+v, want %+v", m, want)
				}
			}
			if pending != len(s.Queue()) {
				t.Fatalf("%d are pending, but the queue is %v", pending, s.Queue())
			}
		}
		// P30.8
		for range len(s.Queue()) {
			if !s.Do(step()).Done {
				t.Fatal("step")
			}
		}
		for _, m := range s.Marks() {
			if m.Pending {
				t.Fatalf("%+v is pending", m)
			}
		}
	}
	if graded < 500 {
		t.Errorf("only %d grades", graded)
	}
}

func TestP30_5_Cache(t *testing.T) {
	r := rand.New(rand.NewSource(31))
	for range 20 {
		a, _ := server.New(8, 0, 3)
		b, _ := server.New(1, 2, 3)
		c, _ := server.New(32, 32, 3)
		must(t, a, enroll("ann", 1), publish("hw"))
		must(t, b, enroll("ann", 1), publish("hw"))
		must(t, c, enroll("ann", 1), publish("hw"))
		for range 60 {
			x := random(r)
			ra, rb, rc := a.Do(x), b.Do(x), c.Do(x)
			if !reflect.DeepEqual(ra, rb) || !reflect.DeepEqual(ra, rc) {
				t.Fatalf("%+v: %+v, %+v, %+v", x, ra, rb, rc)
			}
			if stateOf(a) != stateOf(b) || stateOf(a) != stateOf(c) {
				t.Fatalf("%+v leads to other states", x)
			}
		}
	}
}

func TestP30_6_OtherStudents(t *testing.T) {
	a, b := full(t, 8), full(t, 8)
	must(t, a, submit("ann", "hw", right))
	must(t, b, submit("ann", "hw", "#"))
	harderTask := publish("hw")
	harderTask.Other = of("tests/a.m", harder)
	for _, c := range []api.Command{submit("bob", "hw", wrong), submit("bob", "lab", right), look("bob", "hw"), step(), look("bob", "hw"), step(), look("bob", "hw"), harderTask, look("bob", "hw"), step(), step(), look("bob", "lab"), step(), look("bob", "hw")} {
		ra, rb := a.Do(c), b.Do(c)
		if ra.Err != rb.Err {
			t.Fatalf("%+v: %d, %d", c, ra.Err, rb.Err)
		}
		if c.Actor == "bob" && !reflect.DeepEqual(ra, rb) {
			t.Errorf("%+v: %+v and %+v", c, ra, rb)
		}
		if !reflect.DeepEqual(a.Tasks(), b.Tasks()) || !reflect.DeepEqual(others(a.Marks()), others(b.Marks())) {
			t.Errorf("after %+v the marks are %+v and %+v", c, a.Marks(), b.Marks())
		}
	}
}

// others returns the marks of all but ann.
func others(l []api.Mark) []api.Mark {
	var r []api.Mark
	for _, m := range l {
		if m.Pair.Student != "ann" {
			r = append(r, m)
		}
	}
	return r
}

func TestP30_7_Hidden(t *testing.T) {
	a, b := course(t, 8), course(t, 8)
	secret := publish("hw")
	secret.Other = of("tests/a.m", harder)
	must(t, a, enroll("ann", 1), publish("hw"))
	must(t, b, enroll("ann", 1), secret)
	for _, c := range []api.Command{look("ann", "hw"), submit("ann", "hw", right), look("ann", "hw"), step(), look("ann", "hw"), submit("ann", "hw", "#"), step(), look("ann", "hw"), api.Command{Kind: api.CmSubmit, Actor: "ann", Task: "hw", Tree: of("tests/a.m", "")}, step(), look("ann", "hw")} {
		ra, rb := a.Do(c), b.Do(c)
		for _, r := range []api.Reply{ra, rb} {
			for i := range r.View.Marks {
				r.View.Marks[i].Grade.Score, r.View.Marks[i].Grade.Verdicts = 0, nil
			}
		}
		if !reflect.DeepEqual(ra, rb) {
			t.Errorf("%+v: %+v and %+v", c, ra, rb)
		}
		if c.Kind == api.CmView && (len(ra.View.Hidden.Files) != 0 || ra.View.Manifest.Tests[0].Name != "") {
			t.Errorf("a student sees %+v", ra.View)
		}
	}
}
