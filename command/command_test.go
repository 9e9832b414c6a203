package command_test

import (
	"bytes"
	"math/rand"
	"reflect"
	"strings"
	"testing"

	"classroom/api"
	"classroom/command"
)

func of(l ...string) api.Tree {
	var t api.Tree
	for i := 0; i+1 < len(l); i += 2 {
		t.Files = append(t.Files, api.Entry{Path: l[i], Content: l[i+1]})
	}
	return t
}

func some() api.Command {
	return api.Command{Kind: api.CmPublish, Actor: "root", User: "ü", Role: 200, Task: "t", Text: "a\nb", Tree: of("a", "xy"), Other: of("b", ""), Number: 0x01020304}
}

const code = "\x02\x00\x04root\x00\x02ü\x00\x01t\x00\x03a\nb\xc8\x01\x02\x03\x04\x00\x06\x01a\x00\x02xy\x00\x04\x01b\x00\x00"

func TestP31_1_Encode(t *testing.T) {
	if b, e := command.Encode(some()); e != api.OK || string(b) != code {
		t.Errorf("Encode: %q, %d", b, e)
	}
	if b, e := command.Encode(api.Command{Kind: api.CmStep, Actor: "root"}); e != api.OK || len(b) != 22 {
		t.Errorf("the example: %q, %d", b, e)
	}
	if b, e := command.Encode(api.Command{Kind: api.CmView, Role: 255, Number: 1<<31 - 1}); e != api.OK || string(b) != "\x06\x00\x00\x00\x00\x00\x00\x00\x00\xff\x7f\xff\xff\xff\x00\x00\x00\x00" {
		t.Errorf("the greatest numbers: %q, %d", b, e)
	}
	long := strings.Repeat("x", 8193)
	for i, x := range []struct {
		change func(c *api.Command)
		want   api.Errno
	}{
		{func(c *api.Command) { c.Kind = 0 }, api.ErrRange}, {func(c *api.Command) { c.Kind = 7 }, api.ErrRange}, {func(c *api.Command) { c.Kind = 257 }, api.ErrRange}, {func(c *api.Command) { c.Kind, c.Actor = -1, long }, api.ErrRange}, {func(c *api.Command) { c.Role = -1 }, api.ErrRange}, {func(c *api.Command) { c.Role = 256 }, api.ErrRange}, {func(c *api.Command) { c.Number = -1 }, api.ErrRange}, {func(c *api.Command) { c.Number = 1 << 31 }, api.ErrRange},
		{func(c *api.Command) { c.Actor = long }, api.ErrLong}, {func(c *api.Command) { c.User = long }, api.ErrLong}, {func(c *api.Command) { c.Task = long }, api.ErrLong}, {func(c *api.Command) { c.Text, c.Tree = long, of("A", "") }, api.ErrLong}, {func(c *api.Command) { c.Text = strings.Repeat("x", 70000) }, api.ErrLong},
		{func(c *api.Command) { c.Tree, c.Other = of("A", ""), of("a", "", "a", "") }, api.ErrPath}, {func(c *api.Command) { c.Other = of("a", "", "a", "") }, api.ErrTwice}, {func(c *api.Command) { c.Text, c.Other = long[:8192], of("a", "", "a/b", "") }, api.ErrClash}, {func(c *api.Command) { c.Tree = of("a", long[:4096], "b", long[:4096]) }, api.ErrLong},
		{func(c *api.Command) { c.Text = long[:8192] }, api.ErrLong}, {func(c *api.Command) { c.Text = long[:8192-len(code)+4] }, api.ErrLong}, {func(c *api.Command) { c.Text = long[:8192-len(code)+3] }, api.OK},
	} {
		c := some()
		x.change(&c)
		b, e := command.Encode(c)
		if e != x.want || (len(b) == 0) != (e != api.OK) {
			t.Errorf("Encode %d: %d bytes, %d, want %d", i, len(b), e, x.want)
		}
	}
}

func TestP31_2_Decode(t *testing.T) {
	b := []byte(code)
	c, e := command.Decode(b)
	b[6] = 'z'
	if e != api.OK || !reflect.DeepEqual(c, some()) {
		t.Errorf("Decode: %+v, %d", c, e)
	}
	var bad []string
	for i := range len(code) {
		bad = append(bad, code[:i])
	}
	swap := func(old, new string) string { return strings.Replace(code, old, new, 1) }
	bad = append(bad, code+"\x00", "\x00"+code[1:], "\x07"+code[1:], "\xff"+code[1:], swap("\x01\x02\x03\x04", "\x80\x00\x00\x00"), swap("\x01\x02\x03\x04", "\xff\xff\xff\xff"), swap("\x01a\x00", "\x01A\x00"), swap("\x00\x06\x01a", "\x00\x05\x01a"), swap("\x00\x06\x01a", "\x00\x07\x01a"), swap("\x00\x04root", "\xff\xffroot"), swap("\x00\x04root", "\x00\x05root"))
	bad = append(bad, "\x04"+strings.Repeat("\x00", 6)+"\x20\x01"+strings.Repeat("x", 8193)+strings.Repeat("\x00", 9), "\x04"+strings.Repeat("\x00", 6)+"\x20\x00"+strings.Repeat("x", 8192)+strings.Repeat("\x00", 9))
	for i, s := range bad {
		if c, e := command.Decode([]byte(s)); e != api.ErrBad || !reflect.DeepEqual(c, api.Command{}) {
			t.Errorf("Decode %d of %q: %+v, %d", i, s, c, e)
		}
	}
	full := some()
	full.Text = strings.Repeat("x", 8192-len(code)+3)
	b, _ = command.Encode(full)
	if c, e := command.Decode(b); len(b) != api.MaxBlob || e != api.OK || !command.Same(c, full) {
		t.Errorf("MaxBlob bytes: %d, %d", len(b), e)
	}
}

func TestP31_3_Same(t *testing.T) {
	changes := []func(c *api.Command){
		func(c *api.Command) {}, func(c *api.Command) { c.Kind = 1 }, func(c *api.Command) { c.Actor = "z" }, func(c *api.Command) { c.User = "z" }, func(c *api.Command) { c.Role = 1 }, func(c *api.Command) { c.Task = "z" }, func(c *api.Command) { c.Text = "z" }, func(c *api.Command) { c.Number = 1 }, func(c *api.Command) { c.Tree = of("z", "xy") }, func(c *api.Command) { c.Tree = of("a", "z") }, func(c *api.Command) { c.Tree = of() }, func(c *api.Command) { c.Other = of("b", "z") }, func(c *api.Command) { c.Other = of("b", "", "c", "") }, func(c *api.Command) { c.Tree, c.Other = c.Other, c.Tree },
	}
	for i, f := range changes {
		for k, g := range changes {
			a, b := some(), some()
			f(&a)
			g(&b)
			if command.Same(a, b) != (i == k) {
				t.Errorf("Same of %d and %d", i, k)
			}
		}
	}
	if !command.Same(api.Command{}, api.Command{Tree: api.Tree{Files: []api.Entry{}}}) {
		t.Error("nil and empty are the same")
	}
}

func TestP31_4_Inverse(t *testing.T) {
	r := rand.New(rand.NewSource(31))
	words := []string{"", "a", "b", "ab", "\x00", "\x00\x01a"}
	seen := map[string]api.Command{}
	for range 20000 {
		c := api.Command{Kind: 1 + r.Intn(6), Actor: words[r.Intn(6)], User: words[r.Intn(6)], Task: words[r.Intn(6)], Text: words[r.Intn(6)], Role: r.Intn(3), Number: r.Intn(2) << r.Intn(31), Tree: []api.Tree{of(), of("a", ""), of("a", "b")}[r.Intn(3)], Other: []api.Tree{of(), of("a", ""), of("a", "b")}[r.Intn(3)]}
		b, e := command.Encode(c)
		got, f := command.Decode(b)
		if e != api.OK || f != api.OK || !command.Same(got, c) {
			t.Fatalf("%+v: %+v, %d, %d", c, got, e, f)
		}
		if old, ok := seen[string(b)]; ok && !command.Same(old, c) {
			t.Fatalf("%+v and %+v have the same encoding", old, c)
		}
		seen[string(b)] = c
		b[r.Intn(len(b))] ^= byte(1 << r.Intn(8))
		if got, e := command.Decode(b); e == api.OK {
			if again, e := command.Encode(got); e != api.OK || !bytes.Equal(again, b) {
				t.Fatalf("%q is not the encoding of %+v", b, got)
			}
		} else if e != api.ErrBad {
			t.Fatalf("Decode: %d", e)
		}
	}
}
