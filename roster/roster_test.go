package roster_test

import (
	"fmt"
	"math/rand"
	"reflect"
	"testing"

	"classroom/api"
	"classroom/roster"
)

// of makes users of names and roles in turn.
func of(l ...any) []api.User {
	var r []api.User
	for i := 0; i+1 < len(l); i += 2 {
		r = append(r, api.User{Name: l[i].(string), Role: l[i+1].(int)})
	}
	return r
}

func many(n int) []api.User {
	var l []api.User
	for i := range n {
		l = append(l, api.User{Name: fmt.Sprintf("u%02d", i), Role: api.Student})
	}
	return l
}

const s, in = api.Student, api.Instructor

func TestP26_1_Check(t *testing.T) {
	for i, x := range []struct {
		l    []api.User
		want api.Errno
	}{
		{nil, api.OK}, {of("ann", s, "bob", in), api.OK}, {many(32), api.OK}, {many(33), api.ErrLong}, {append(of("", 0), many(32)...), api.ErrLong},
		{of("", s), api.ErrName}, {of("Ann", s), api.ErrName}, {of("", 0), api.ErrName}, {of("ann", 0), api.ErrRange}, {of("ann", 3), api.ErrRange}, {of("ann", -1), api.ErrRange}, {of("ann", s, "ann", in), api.ErrTwice}, {of("bob", s, "ann", s), api.ErrTwice}, {of("bob", s, "ann", 0), api.ErrRange}, {of("bob", s, "A", 0), api.ErrName}, {of("bob", s, "ann", s, "A", s), api.ErrTwice}, {of("ann", 0, "A", s), api.ErrRange},
	} {
		if e := roster.Check(x.l); e != x.want {
			t.Errorf("Check %d: %d, want %d", i, e, x.want)
		}
		if x.want != api.OK {
			if l, e := roster.Add(x.l, "", 0); e != x.want || len(l) != 0 {
				t.Errorf("Add %d: %v, %d, want %d", i, l, e, x.want)
			}
		}
	}
}

func TestP26_2_Role(t *testing.T) {
	l := of("bob", in, "A", 7, "bob", s, "", s)
	for name, want := range map[string]int{"bob": in, "A": 7, "": s} {
		if role, ok := roster.Role(l, name); role != want || !ok {
			t.Errorf("Role(%q): %d, %t", name, role, ok)
		}
	}
	if role, ok := roster.Role(l, "ann"); role != 0 || ok {
		t.Errorf("Role of nobody: %d, %t", role, ok)
	}
	if _, ok := roster.Role(nil, ""); ok {
		t.Error("Role in an empty list")
	}
}

func TestP26_3_Add(t *testing.T) {
	l := of("bob", s, "eve", in)
	for name, want := range map[string][]api.User{"ann": of("ann", in, "bob", s, "eve", in), "cay": of("bob", s, "cay", in, "eve", in), "zoe": of("bob", s, "eve", in, "zoe", in)} {
		got, e := roster.Add(l, name, in)
		if e != api.OK || !reflect.DeepEqual(got, want) {
			t.Errorf("Add of %q: %v, %d", name, got, e)
		}
		got[0].Name = "changed"
	}
	if !reflect.DeepEqual(l, of("bob", s, "eve", in)) {
		t.Error("Add changes its argument")
	}
	roomy := append(make([]api.User, 0, 9), l...)
	a, _ := roster.Add(roomy, "zoe", in)
	b, _ := roster.Add(roomy, "zak", in)
	if a[2].Name != "zoe" || b[2].Name != "zak" {
		t.Error("results share memory")
	}
	if got, e := roster.Add(nil, "ann", s); e != api.OK || !reflect.DeepEqual(got, of("ann", s)) {
		t.Errorf("Add to nothing: %v, %d", got, e)
	}
	for i, x := range []struct {
		l    []api.User
		name string
		role int
		want api.Errno
	}{
		{l, "", s, api.ErrName}, {l, "Bob", 0, api.ErrName}, {l, "ann", 0, api.ErrRange}, {l, "ann", 3, api.ErrRange}, {l, "bob", 0, api.ErrRange}, {l, "bob", s, api.ErrTwice}, {l, "bob", in, api.ErrTwice}, {many(32), "u00", s, api.ErrTwice}, {many(32), "ann", s, api.ErrLong}, {many(32), "A", s, api.ErrName},
	} {
		if got, e := roster.Add(x.l, x.name, x.role); e != x.want || len(got) != 0 {
			t.Errorf("Add %d: %v, %d, want %d", i, got, e, x.want)
		}
	}
	if got, e := roster.Add(many(31), "ann", s); e != api.OK || len(got) != 32 {
		t.Errorf("the last user: %d", e)
	}
}

func TestP26_4_AnyOrder(t *testing.T) {
	r := rand.New(rand.NewSource(26))
	all := many(32)
	for range 50 {
		var l []api.User
		for _, i := range r.Perm(32) {
			var e api.Errno
			if l, e = roster.Add(l, all[i].Name, all[i].Role); e != api.OK || roster.Check(l) != api.OK {
				t.Fatal(e)
			}
		}
		if !reflect.DeepEqual(l, all) {
			t.Fatalf("%v", l)
		}
	}
}
