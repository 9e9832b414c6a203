package treecodec_test

import (
	"bytes"
	"fmt"
	"math/rand"
	"reflect"
	"strings"
	"testing"

	"classroom/api"
	"classroom/tree"
	"classroom/treecodec"
)

func of(l ...string) api.Tree {
	var t api.Tree
	for i := 0; i+1 < len(l); i += 2 {
		t.Files = append(t.Files, api.Entry{Path: l[i], Content: l[i+1]})
	}
	return t
}

func equal(a, b api.Tree) bool {
	return len(a.Files) == 0 && len(b.Files) == 0 || reflect.DeepEqual(a.Files, b.Files)
}

func TestP5_1_Encode(t *testing.T) {
	for i, x := range []struct {
		t    api.Tree
		want string
	}{
		{of(), ""}, {of("a", "xy"), "\x01a\x00\x02xy"}, {of("a", "", "b/c", "\x00"), "\x01a\x00\x00\x03b/c\x00\x01\x00"},
		{of("a", strings.Repeat("z", 4096)), "\x01a\x10\x00" + strings.Repeat("z", 4096)}, {of("a", strings.Repeat("z", 300)), "\x01a\x01\x2c" + strings.Repeat("z", 300)},
	} {
		if b, e := treecodec.Encode(x.t); e != api.OK || string(b) != x.want {
			t.Errorf("Encode %d: %q, %d", i, b, e)
		}
	}
	big := strings.Repeat("z", 4096)
	for i, x := range []struct {
		t    api.Tree
		want api.Errno
	}{
		{of("A", ""), api.ErrPath}, {of("a", big+"z"), api.ErrLong}, {of("b", "", "a", ""), api.ErrTwice}, {of("a", "", "a/b", ""), api.ErrClash},
		{of("a", big, "b", strings.Repeat("z", 6000-4096-7)), api.ErrLong}, {of("a", big, "a/b", big), api.ErrClash},
	} {
		if b, e := treecodec.Encode(x.t); e != x.want || len(b) != 0 {
			t.Errorf("Encode %d: %d bytes, %d, want %d", i, len(b), e, x.want)
		}
	}
	if b, e := treecodec.Encode(of("a", big, "b", strings.Repeat("z", 6000-4096-8))); e != api.OK || len(b) != api.MaxTree {
		t.Errorf("Encode of MaxTree bytes: %d, %d", len(b), e)
	}
}

func TestP5_2_Decode(t *testing.T) {
	b := []byte("\x01a\x00\x02xy")
	got, e := treecodec.Decode(b)
	b[1] = 'b'
	if e != api.OK || !equal(got, of("a", "xy")) {
		t.Errorf("Decode: %v, %d", got, e)
	}
	if got, e := treecodec.Decode(nil); e != api.OK || len(got.Files) != 0 {
		t.Errorf("Decode of nothing: %v, %d", got, e)
	}
	file := func(p, s string) string {
		return string([]byte{byte(len(p))}) + p + string([]byte{byte(len(s) >> 8), byte(len(s))}) + s
	}
	full := make([]string, 65)
	for i := range full {
		full[i] = file(fmt.Sprintf("f%02d", i), "")
	}
	if got, e := treecodec.Decode([]byte(strings.Join(full[:64], ""))); e != api.OK || len(got.Files) != 64 {
		t.Errorf("64 files: %d", e)
	}
	long := "\x01a\x10\x00" + strings.Repeat("z", 4096)
	for i, s := range []string{
		"\x00", "\x01", "\x01a", "\x01a\x00", "\x01a\x00\x01", "\x02a\x00\x00", "\x00\x00\x00", "\x01A\x00\x00", "\x01a\x00\x00x", "\x01a\x00\x00\x01a\x00\x00", "\x01b\x00\x00\x01a\x00\x00", "\x01a\x00\x00\x03a/b\x00\x00", "\x01a\x00\x00\x00",
		"\x01a\x10\x01" + strings.Repeat("z", 4097), strings.Join(full, ""), long + "\x01b\x07\x69" + strings.Repeat("z", 6000-4096-7), "\xff", "\x01a\xff\xff",
	} {
		if got, e := treecodec.Decode([]byte(s)); e != api.ErrBad || len(got.Files) != 0 {
			t.Errorf("Decode %d: %v, %d", i, got, e)
		}
	}
	if got, e := treecodec.Decode([]byte(long + "\x01b\x07\x68" + strings.Repeat("z", 6000-4096-8))); e != api.OK || len(got.Files) != 2 {
		t.Errorf("Decode of MaxTree bytes: %d", e)
	}
}

func TestP5_3_Inverse(t *testing.T) {
	r := rand.New(rand.NewSource(7))
	seen := map[string]api.Tree{}
	for range 3000 {
		var l []api.Entry
		for _, p := range []string{"a", "a/b", "b", "c/d/e"} {
			if r.Intn(2) == 0 {
				b := make([]byte, r.Intn(3))
				r.Read(b)
				l = append(l, api.Entry{Path: p, Content: string(b)})
			}
		}
		a, e := tree.Build(l)
		if e != api.OK {
			continue
		}
		b, e := treecodec.Encode(a)
		if got, f := treecodec.Decode(b); e != api.OK || f != api.OK || !equal(got, a) {
			t.Fatalf("%v: %v, %d, %d", a, got, e, f)
		}
		if old, ok := seen[string(b)]; ok && !equal(old, a) {
			t.Fatalf("%v and %v have the same encoding", old, a)
		}
		seen[string(b)] = a
		// Whatever Decode accepts is the encoding of its result.
		if len(b) > 0 {
			b[r.Intn(len(b))] ^= byte(1 << r.Intn(8))
			if got, e := treecodec.Decode(b); e == api.OK {
				if c, e := treecodec.Encode(got); e != api.OK || !bytes.Equal(b, c) {
					t.Fatalf("%v is not the encoding of %v", b, got)
				}
			} else if e != api.ErrBad {
				t.Fatalf("Decode: %d", e)
			}
		}
	}
}
