package queue_test

import (
	"math/rand"
	"reflect"
	"testing"

	"classroom/api"
	"classroom/queue"
)

// of makes pairs of the letters of a text.
func of(s string) []api.Pair {
	l := []api.Pair{}
	for _, c := range s {
		l = append(l, pair(c))
	}
	return l
}

func pair(c rune) api.Pair { return api.Pair{Student: string(c), Task: "t"} }

// same compares queues; nil and empty are the same.
func same(a, b []api.Pair) bool { return len(a) == 0 && len(b) == 0 || reflect.DeepEqual(a, b) }

func TestP27_1_Push(t *testing.T) {
	for i, x := range []struct {
		q    string
		room int
		p    rune
		want string
		e    api.Errno
	}{
		{"", 1, 'a', "a", 0}, {"a", 2, 'b', "ab", 0}, {"ba", 5, 'c', "bac", 0}, {"ab", 2, 'a', "ab", 0}, {"ab", 3, 'b', "ab", 0}, {"ab", 2, 'c', "", api.ErrFull}, {"ab", 1, 'c', "", api.ErrFull}, {"ab", 1, 'a', "ab", 0}, {"", 0, 'a', "", api.ErrFull}, {"", -1, 'a', "", api.ErrFull}, {"a", -1, 'a', "a", 0}, {"aa", 3, 'b', "aab", 0},
	} {
		q := of(x.q)
		got, e := queue.Push(q, x.room, pair(x.p))
		if e != x.e || !same(got, of(x.want)) {
			t.Errorf("Push %d: %v, %d", i, got, e)
		}
		if len(got) > 0 {
			got[0].Task = "changed"
		}
		if !same(q, of(x.q)) {
			t.Errorf("Push %d shares memory", i)
		}
	}
	// Two results share no memory, even if the queue has room for more.
	roomy := append(make([]api.Pair, 0, 9), of("a")...)
	for _, f := range []func(p api.Pair) ([]api.Pair, api.Errno){
		func(p api.Pair) ([]api.Pair, api.Errno) { return queue.Push(roomy, 5, p) },
		func(p api.Pair) ([]api.Pair, api.Errno) { return queue.PushAll(roomy, 5, []api.Pair{p}) },
	} {
		x, _ := f(pair('x'))
		y, _ := f(pair('y'))
		if !same(x, of("ax")) || !same(y, of("ay")) {
			t.Errorf("%v, %v", x, y)
		}
	}
	// Both parts of a pair count.
	if got, _ := queue.Push(of("a"), 3, api.Pair{Student: "a", Task: "u"}); len(got) != 2 {
		t.Error("another task")
	}
	if got, _ := queue.Push(nil, 3, api.Pair{}); len(got) != 1 {
		t.Error("a zero pair")
	}
}

func TestP27_2_PushAll(t *testing.T) {
	for i, x := range []struct {
		q    string
		room int
		l    string
		want string
		e    api.Errno
	}{
		{"", 3, "aba", "ab", 0}, {"a", 3, "bac", "abc", 0}, {"ab", 3, "cd", "", api.ErrFull}, {"ab", 2, "ba", "ab", 0}, {"ab", 2, "", "ab", 0}, {"ab", 0, "", "ab", 0}, {"", 2, "abc", "", api.ErrFull}, {"", 2, "aabb", "ab", 0}, {"ab", 1, "a", "ab", 0}, {"", 0, "", "", 0},
	} {
		q, l := of(x.q), of(x.l)
		got, e := queue.PushAll(q, x.room, l)
		if e != x.e || !same(got, of(x.want)) {
			t.Errorf("PushAll %d: %v, %d", i, got, e)
		}
		if len(got) > 0 {
			got[0].Task = "changed"
		}
		if !same(q, of(x.q)) || !same(l, of(x.l)) {
			t.Errorf("PushAll %d shares memory", i)
		}
	}
}

func TestP27_3_Pop(t *testing.T) {
	q := of("abc")
	rest, p, ok := queue.Pop(q)
	if !ok || p != pair('a') || !same(rest, of("bc")) {
		t.Errorf("Pop: %v, %v, %t", rest, p, ok)
	}
	rest[0].Task = "changed"
	if !same(q, of("abc")) {
		t.Error("Pop shares memory")
	}
	if rest, p, ok := queue.Pop(of("a")); !ok || p != pair('a') || len(rest) != 0 {
		t.Error("Pop of the last one")
	}
	if rest, p, ok := queue.Pop(nil); ok || p != (api.Pair{}) || len(rest) != 0 {
		t.Error("Pop of an empty queue")
	}
	if !queue.Has(q, pair('a')) || !queue.Has(q, pair('c')) || queue.Has(q, pair('d')) || queue.Has(q, api.Pair{Student: "a"}) || queue.Has(nil, api.Pair{}) {
		t.Error("Has")
	}
}

func TestP27_4_Order(t *testing.T) {
	r := rand.New(rand.NewSource(27))
	var q, model []api.Pair
	for range 5000 {
		room := 4
		switch r.Intn(3) {
		case 0:
			p := pair(rune('a' + r.Intn(6)))
			got, e := queue.Push(q, room, p)
			all, f := queue.PushAll(q, room, []api.Pair{p})
			if e != f || !same(got, all) {
				t.Fatal("Push and PushAll differ")
			}
			if e == api.OK {
				if !queue.Has(q, p) {
					model = append(model, p)
				}
				q = got
			} else if len(q) < room || queue.Has(q, p) {
				t.Fatalf("Push: %d", e)
			}
		case 1:
			rest, p, ok := queue.Pop(q)
			if ok != (len(model) > 0) || ok && p != model[0] {
				t.Fatalf("Pop: %v", p)
			}
			if ok {
				model = model[1:]
			}
			q = rest
		}
		if len(q) > room || !same(q, model) {
			t.Fatalf("%v, want %v", q, model)
		}
	}
}
