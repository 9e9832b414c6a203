package durable_test

import (
	"fmt"
	"math/rand"
	"reflect"
	"strings"
	"testing"

	"classroom/api"
	"classroom/command"
	"classroom/durable"
	"classroom/recordlog"
	"classroom/sector"
	"classroom/server"
)

func of(l ...string) api.Tree {
	var t api.Tree
	for i := 0; i+1 < len(l); i += 2 {
		t.Files = append(t.Files, api.Entry{Path: l[i], Content: l[i+1]})
	}
	return t
}

const (
	right = "func add(a int, b int) int { return a + b; }"
	tests = `import "work"; func one() bool { return work.add(1, 2) == 3; }`
)

func enroll(name string, role int) api.Command {
	return api.Command{Kind: api.CmEnroll, Actor: "root", User: name, Role: role}
}

func publish(name, hidden string) api.Command {
	return api.Command{Kind: api.CmPublish, Actor: "root", Text: "task " + name + "\nbounds 100 10 10\ntest tests one 5\n", Tree: of("work/a.m", ""), Other: of("tests/a.m", hidden)}
}

func submit(actor, task, content string) api.Command {
	return api.Command{Kind: api.CmSubmit, Actor: actor, Task: task, Tree: of("work/a.m", content)}
}

func step() api.Command { return api.Command{Kind: api.CmStep, Actor: "root"} }

func disk(t *testing.T, n int) *sector.Disk {
	t.Helper()
	d, e := sector.New(n)
	if e != api.OK {
		t.Fatal(e)
	}
	return d
}

func open(t *testing.T, d *sector.Disk) *durable.Course {
	t.Helper()
	c, e := durable.Open(d, 8, 8, 3)
	if e != api.OK || c == nil || c.Dead() {
		t.Fatalf("Open: %d", e)
	}
	return c
}

func model(t *testing.T) *server.Server {
	t.Helper()
	s, e := server.New(8, 8, 3)
	if e != api.OK {
		t.Fatal(e)
	}
	return s
}

// state writes the state of a server, apart from the cache.
func state(s *server.Server) string {
	r := fmt.Sprintf("%v %v %v %v", s.Users(), s.Tasks(), s.Marks(), s.Queue())
	for _, m := range s.Marks() {
		f, ok := s.Submission(m.Pair)
		r += fmt.Sprint(f, ok)
	}
	return r
}

func must(t *testing.T, c *durable.Course, l ...api.Command) {
	t.Helper()
	for _, x := range l {
		if r := c.Do(x); r.Err != api.OK {
			t.Fatalf("%+v: %d", x, r.Err)
		}
	}
}

// log writes records to a disk.
func log(t *testing.T, d *sector.Disk, l ...[]byte) {
	t.Helper()
	x, e := recordlog.Open(d)
	if e != api.OK {
		t.Fatal(e)
	}
	for _, b := range l {
		if e := x.Append(b); e != api.OK {
			t.Fatal(e)
		}
	}
}

func code(t *testing.T, x api.Command) []byte {
	t.Helper()
	b, e := command.Encode(x)
	if e != api.OK {
		t.Fatal(e)
	}
	return b
}

func TestP32_1_Open(t *testing.T) {
	c := open(t, disk(t, 100))
	if state(c.State()) != state(model(t)) || c.Records() != 0 {
		t.Error("an empty disk")
	}
	d := disk(t, 400)
	log(t, d, code(t, enroll("ann", 1)), code(t, publish("hw", tests)), code(t, submit("ann", "hw", right)), code(t, step()), code(t, submit("ann", "hw", "#")))
	c = open(t, d)
	s := model(t)
	for _, x := range []api.Command{enroll("ann", 1), publish("hw", tests), submit("ann", "hw", right), step(), submit("ann", "hw", "#")} {
		s.Do(x)
	}
	if state(c.State()) != state(s) || c.Records() != 5 {
		t.Errorf("%s, want %s", state(c.State()), state(s))
	}
	garbage := disk(t, 20)
	for k := range 20 {
		garbage.Write(k, []byte(strings.Repeat("\xff", api.SectorSize)))
	}
	off := disk(t, 20)
	off.Cut(0)
	for i, x := range []struct {
		d                 *sector.Disk
		bits, room, queue int
		want              api.Errno
	}{
		{nil, 0, 8, 8, api.ErrRange}, {nil, 8, 33, 8, api.ErrRange}, {nil, 8, 8, 0, api.ErrRange}, {nil, 8, 8, 17, api.ErrRange}, {nil, 8, 8, 8, api.ErrEmpty}, {garbage, 8, 8, 8, api.ErrBad}, {garbage, 8, 8, 0, api.ErrRange}, {off, 8, 8, 8, api.ErrOff},
	} {
		if c, e := durable.Open(x.d, x.bits, x.room, x.queue); e != x.want || c != nil {
			t.Errorf("Open %d: %v, %d, want %d", i, c, e, x.want)
		}
	}
}

func TestP32_1_Bad(t *testing.T) {
	for i, l := range [][][]byte{
		{nil}, {[]byte("x")}, {append(code(t, enroll("ann", 1)), 0)}, {code(t, enroll("ann", 1)), code(t, enroll("ann", 1))}, {code(t, enroll("ann", 3))}, {code(t, step())}, {code(t, enroll("ann", 1)), code(t, submit("ann", "hw", ""))}, {code(t, api.Command{Kind: api.CmEvict, Actor: "root"})}, {code(t, enroll("ann", 1)), code(t, publish("hw", tests)), code(t, api.Command{Kind: api.CmView, Actor: "root", Task: "hw"})}, {code(t, submit("ann", "hw", "")), code(t, enroll("ann", 1))}, {code(t, publish("hw", tests)), code(t, api.Command{Kind: api.CmEnroll, Actor: "none", User: "ann", Role: 1})},
		{code(t, enroll("ann", 1)), code(t, publish("hw", tests)), code(t, submit("ann", "hw", "")), code(t, step()), code(t, step())},
	} {
		d := disk(t, 400)
		log(t, d, l...)
		if c, e := durable.Open(d, 8, 8, 8); e != api.ErrBad || c != nil {
			t.Errorf("Open %d: %d", i, e)
		}
	}
	// Another size of the queue makes a record impossible.
	d := disk(t, 400)
	must(t, open(t, d), enroll("ann", 1), publish("hw", tests), publish("lab", tests), submit("ann", "hw", ""), submit("ann", "lab", ""))
	if _, e := durable.Open(d, 8, 8, 1); e != api.ErrBad {
		t.Errorf("a smaller queue: %d", e)
	}
	if _, e := durable.Open(d, 1, 0, 2); e != api.OK {
		t.Errorf("another cache: %d", e)
	}
}

func TestP32_2_Do(t *testing.T) {
	d := disk(t, 2000)
	c, s := open(t, d), model(t)
	records := 0
	for i, x := range []struct {
		c        api.Command
		recorded bool
	}{
		{enroll("ann", 1), true}, {enroll("ann", 1), false}, {step(), false}, {publish("hw", tests), true}, {publish("hw", tests), true}, {submit("ann", "hw", right), true}, {submit("ann", "hw", "#"), true}, {submit("ann", "none", ""), false}, {step(), true}, {step(), false}, {api.Command{Kind: api.CmEvict, Actor: "root", Number: 3}, false}, {api.Command{Kind: api.CmView, Actor: "ann", Task: "hw"}, false}, {api.Command{Kind: api.CmView, Actor: "root", Task: "hw"}, false}, {api.Command{}, false}, {publish("hw", "#"), true}, {publish("a", tests), true}, {submit("ann", "a", right), true}, {step(), true},
	} {
		want := s.Do(x.c)
		if got := c.Do(x.c); !reflect.DeepEqual(got, want) {
			t.Errorf("command %d: %+v, want %+v", i, got, want)
		}
		if x.recorded {
			records++
		}
		if c.Records() != records || state(c.State()) != state(s) {
			t.Errorf("after command %d: %d records, want %d", i, c.Records(), records)
		}
		if again := open(t, d.Crash(nil)); state(again.State()) != state(s) || again.Records() != records {
			t.Errorf("after command %d and a crash: %s", i, state(again.State()))
		}
	}
	// The log has the encodings.
	l, _ := recordlog.Open(d)
	if b, _ := l.Record(0); string(b) != string(code(t, enroll("ann", 1))) {
		t.Errorf("the first record: %q", b)
	}
}

func TestP32_2_Errors(t *testing.T) {
	c := open(t, disk(t, api.MaxSectors))
	long := publish("hw", tests)
	long.Tree, long.Other = of("a", strings.Repeat("x", 4096), "b", strings.Repeat("x", 1000)), of("z", strings.Repeat("x", 4096))
	want := state(c.State())
	for i, x := range []struct {
		c    api.Command
		want api.Errno
	}{
		{long, api.ErrLong}, {api.Command{Kind: api.CmEnroll, Actor: "root", User: "ann", Role: 1, Number: -1}, api.ErrRange}, {api.Command{Kind: api.CmEnroll, Actor: "root", User: "ann", Role: 1, Text: strings.Repeat("x", 8193)}, api.ErrLong}, {api.Command{Kind: api.CmEnroll, Actor: "root", User: "ann", Role: 1, Tree: of("A", "")}, api.ErrPath}, {api.Command{Kind: api.CmEnroll, Actor: "root", User: "A", Role: 1, Number: -1}, api.ErrName},
	} {
		if r := c.Do(x.c); !reflect.DeepEqual(r, api.Reply{Err: x.want}) {
			t.Errorf("command %d: %+v, want %d", i, r, x.want)
		}
	}
	if state(c.State()) != want || c.Records() != 0 {
		t.Error("a command with an error changes the state")
	}
	// A command that is not recorded need not have an encoding.
	if r := c.Do(api.Command{Kind: api.CmStep, Actor: "root", Number: -1}); r.Err != api.OK || r.Done {
		t.Errorf("an idle step: %+v", r)
	}
	if r := c.Do(api.Command{Kind: api.CmEvict, Actor: "root", Number: 1 << 40}); r.Err != api.OK {
		t.Errorf("evict: %+v", r)
	}
	small := open(t, disk(t, 7))
	must(t, small, enroll("ann", 1))
	before := state(small.State())
	for range 2 {
		if r := small.Do(publish("hw", tests)); !reflect.DeepEqual(r, api.Reply{Err: api.ErrFull}) || small.Dead() || state(small.State()) != before || small.Records() != 1 {
			t.Errorf("a full disk: %+v", r)
		}
	}
}

func TestP32_2_MaxRecords(t *testing.T) {
	d := disk(t, api.MaxSectors)
	c, e := durable.Open(d, 8, 8, 1)
	if e != api.OK {
		t.Fatal(e)
	}
	must(t, c, enroll("a", 1), api.Command{Kind: api.CmPublish, Actor: "root", Text: "task t\nbounds 1 1 1\n"})
	x := api.Command{Kind: api.CmSubmit, Actor: "a", Task: "t"}
	for c.Records() < api.MaxRecords {
		must(t, c, x)
	}
	before := state(c.State())
	if r := c.Do(x); !reflect.DeepEqual(r, api.Reply{Err: api.ErrLong}) || state(c.State()) != before || c.Records() != api.MaxRecords || c.Dead() {
		t.Errorf("MaxRecords: %+v", r)
	}
	bad := x
	bad.Number = -1
	if r := c.Do(bad); r.Err != api.ErrRange {
		t.Errorf("the error of Encode comes before ErrLong: %+v", r)
	}
	if r := c.Do(api.Command{Kind: api.CmView, Actor: "a", Task: "t"}); r.Err != api.OK {
		t.Errorf("a command that is not recorded: %+v", r)
	}
	if c, e := durable.Open(d, 8, 8, 1); e != api.OK || c.Records() != api.MaxRecords {
		t.Errorf("Open: %d", e)
	}
	log(t, d, code(t, x))
	if _, e := durable.Open(d, 8, 8, 1); e != api.ErrBad {
		t.Errorf("one record more: %d", e)
	}
}

func TestP32_2_Dead(t *testing.T) {
	d := disk(t, 400)
	c := open(t, d)
	must(t, c, enroll("ann", 1), publish("hw", tests), submit("ann", "hw", right))
	before := state(c.State())
	d.Cut(0)
	if r := c.Do(api.Command{Kind: api.CmView, Actor: "ann", Task: "hw"}); r.Err != api.OK || c.Dead() {
		t.Errorf("a command that is not recorded needs no power: %+v", r)
	}
	if r := c.Do(step()); !reflect.DeepEqual(r, api.Reply{Err: api.ErrOff}) || !c.Dead() {
		t.Errorf("without power: %+v", r)
	}
	for _, x := range []api.Command{{}, step(), {Kind: api.CmView, Actor: "ann", Task: "hw"}} {
		if r := c.Do(x); !reflect.DeepEqual(r, api.Reply{Err: api.ErrDead}) {
			t.Errorf("a dead course: %+v", r)
		}
	}
	if state(c.State()) != before || c.Records() != 3 {
		t.Error("the state of a dead course")
	}
}

func TestP32_3_State(t *testing.T) {
	d := disk(t, 400)
	c := open(t, d)
	must(t, c, enroll("ann", 1))
	s := c.State()
	if r := s.Do(enroll("bob", 1)); r.Err != api.OK {
		t.Fatal(r)
	}
	if len(c.State().Users()) != 2 || c.Records() != 1 {
		t.Error("State is not independent")
	}
	must(t, c, enroll("eve", 1))
	if len(s.Users()) != 3 || s.Users()[1].Name != "bob" {
		t.Error("State is not independent")
	}
	for i, none := range []*durable.Course{nil, {}} {
		if r := none.Do(step()); !reflect.DeepEqual(r, api.Reply{Err: api.ErrDead}) || none.State() != nil || none.Records() != 0 || !none.Dead() {
			t.Errorf("course %d", i)
		}
	}
}

func crash(r *rand.Rand, d *sector.Disk) *sector.Disk {
	keep := make([]byte, r.Intn(30))
	for i := range keep {
		keep[i] = []byte{0, 16, byte(r.Intn(17))}[r.Intn(3)]
	}
	return d.Crash(keep)
}

func random(r *rand.Rand) api.Command {
	names := []string{"ann", "bob", "eve"}
	switch n := r.Intn(12); {
	case n < 2:
		return enroll(names[r.Intn(3)], 1)
	case n < 4:
		return publish([]string{"hw", "lab"}[r.Intn(2)], []string{tests, "#"}[r.Intn(2)])
	case n < 8:
		return submit(names[r.Intn(3)], []string{"hw", "lab"}[r.Intn(2)], []string{right, "#", ""}[r.Intn(3)])
	case n < 11:
		return step()
	}
	return api.Command{Kind: api.CmEvict, Actor: "root", Number: r.Intn(3)}
}

func TestP32_4_Crashes(t *testing.T) {
	r := rand.New(rand.NewSource(32))
	lost, kept := 0, 0
	for range 60 {
		d := disk(t, 1000)
		s := model(t)
		for range 12 {
			c := open(t, d)
			if state(c.State()) != state(s) {
				t.Fatalf("%s, want %s", state(c.State()), state(s))
			}
			d.Cut(r.Intn(60))
			maybe := s
			for range 10 {
				x := random(r)
				next := s.Fork()
				want := next.Do(x)
				got := c.Do(x)
				if got.Err == api.ErrOff {
					maybe = next
					break
				}
				if !reflect.DeepEqual(got, want) {
					t.Fatalf("%+v: %+v, want %+v", x, got, want)
				}
				s, maybe = next, next
			}
			d = crash(r, d)
			for r.Intn(3) > 0 {
				d.Cut(r.Intn(6))
				if _, e := durable.Open(d, 8, 8, 3); e != api.OK && e != api.ErrOff {
					t.Fatalf("Open: %d", e)
				}
				d = crash(r, d)
			}
			found := state(open(t, d).State())
			if found != state(s) {
				if found != state(maybe) {
					t.Fatalf("%s, want %s or %s", found, state(s), state(maybe))
				}
				s = maybe
				kept++
			} else if state(maybe) != state(s) {
				lost++
			}
		}
	}
	if lost < 20 || kept < 5 {
		t.Errorf("%d commands were lost, and %d kept", lost, kept)
	}
}

func TestP32_5_Again(t *testing.T) {
	r := rand.New(rand.NewSource(33))
	d := disk(t, 4000)
	c := open(t, d)
	for range 60 {
		c.Do(random(r))
	}
	want := state(c.State())
	for range 3 {
		c = open(t, d)
		if state(c.State()) != want {
			t.Fatal("Open changes the state")
		}
		if r := c.Do(step()); r.Err == api.OK {
			want = state(c.State())
		}
		d = d.Crash(nil)
	}
}
