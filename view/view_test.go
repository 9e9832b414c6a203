package view_test

import (
	"reflect"
	"testing"

	"classroom/api"
	"classroom/view"
)

func files(l ...string) api.Tree {
	var t api.Tree
	for i := 0; i+1 < len(l); i += 2 {
		t.Files = append(t.Files, api.Entry{Path: l[i], Content: l[i+1]})
	}
	return t
}

func task() api.Task {
	return api.Task{
		Manifest: api.Manifest{Name: "hw", Protect: []string{"lib"}, Allow: []string{"x"}, Pins: []api.Pin{{Path: "p", Digest: 5}}, Bounds: api.Bounds{Fuel: 1, Calls: 2, Heap: 3}, Tests: []api.Test{{Dir: "t", Name: "a", Points: 5}, {Dir: "t", Name: "b", Points: 6}}},
		Starter:  files("a", "1", "b", "2"), Hidden: files("t/a.m", "secret"),
	}
}

func marks() []api.Mark {
	return []api.Mark{
		{Pair: api.Pair{Student: "ann", Task: "before"}, Version: 9, Pending: true},
		{Pair: api.Pair{Student: "ann", Task: "hw"}, Version: 1, Grade: api.Grade{Kind: 1, Score: 5, Verdicts: []int{1, 2}}},
		{Pair: api.Pair{Student: "bob", Task: "hw"}, Version: 2, Pending: true},
		{Pair: api.Pair{Student: "ann", Task: "other"}, Version: 3},
		{Pair: api.Pair{Student: "ann", Task: "hw"}, Version: 8},
	}
}

func redacted() api.Manifest {
	m := task().Manifest
	m.Tests = []api.Test{{Points: 5}, {Points: 6}}
	return m
}

func TestP29_1_Redact(t *testing.T) {
	m := task().Manifest
	got := view.Redact(m)
	if !reflect.DeepEqual(got, redacted()) {
		t.Errorf("Redact: %v", got)
	}
	got.Protect[0], got.Allow[0], got.Pins[0].Path, got.Tests[0].Points = "z", "z", "z", 99
	if !reflect.DeepEqual(m, task().Manifest) {
		t.Error("Redact shares memory")
	}
	if got := view.Redact(api.Manifest{}); !view.Same(api.View{Manifest: got}, api.View{}) {
		t.Errorf("Redact of nothing: %v", got)
	}
}

func TestP29_2_Make(t *testing.T) {
	all := marks()
	for i, x := range []struct {
		user string
		role int
		want api.View
	}{
		{"root", api.Instructor, api.View{Manifest: task().Manifest, Starter: task().Starter, Hidden: task().Hidden, Marks: []api.Mark{all[1], all[2], all[4]}}},
		{"ann", api.Instructor, api.View{Manifest: task().Manifest, Starter: task().Starter, Hidden: task().Hidden, Marks: []api.Mark{all[1], all[2], all[4]}}},
		{"ann", api.Student, api.View{Manifest: redacted(), Starter: task().Starter, Marks: all[1:2]}}, {"bob", api.Student, api.View{Manifest: redacted(), Starter: task().Starter, Marks: all[2:3]}}, {"eve", api.Student, api.View{Manifest: redacted(), Starter: task().Starter}}, {"", api.Student, api.View{Manifest: redacted(), Starter: task().Starter}},
		{"ann", 0, api.View{}}, {"ann", 3, api.View{}}, {"ann", -1, api.View{}},
	} {
		k, l := task(), marks()
		got := view.Make(k, l, x.user, x.role)
		if !view.Same(got, x.want) || x.role > 2 && !reflect.DeepEqual(got, api.View{}) || x.role == api.Student && len(got.Hidden.Files) != 0 {
			t.Errorf("Make %d: %+v, want %+v", i, got, x.want)
		}
		if len(got.Starter.Files) > 0 {
			got.Manifest.Protect[0], got.Manifest.Tests[0].Points, got.Starter.Files[0].Path = "z", 99, "z"
		}
		if len(got.Hidden.Files) > 0 {
			got.Hidden.Files[0].Path = "z"
		}
		if len(got.Marks) > 0 && len(got.Marks[0].Grade.Verdicts) > 0 {
			got.Marks[0].Grade.Verdicts[0] = 99
		}
		if !reflect.DeepEqual(k, task()) || !reflect.DeepEqual(l, marks()) {
			t.Errorf("Make %d shares memory", i)
		}
	}
}

func TestP29_3_Same(t *testing.T) {
	changes := []func(v *api.View){
		func(v *api.View) {}, func(v *api.View) { v.Manifest.Name = "z" }, func(v *api.View) { v.Manifest.Protect[0] = "z" }, func(v *api.View) { v.Manifest.Allow = nil }, func(v *api.View) { v.Manifest.Pins[0].Path = "z" }, func(v *api.View) { v.Manifest.Pins[0].Digest = 9 }, func(v *api.View) { v.Manifest.Bounds.Fuel = 9 }, func(v *api.View) { v.Manifest.Bounds.Calls = 9 }, func(v *api.View) { v.Manifest.Bounds.Heap = 9 }, func(v *api.View) { v.Manifest.Tests[0].Dir = "z" }, func(v *api.View) { v.Manifest.Tests[1].Name = "z" }, func(v *api.View) { v.Manifest.Tests[1].Points = 9 }, func(v *api.View) { v.Manifest.Tests = v.Manifest.Tests[:1] },
		func(v *api.View) { v.Starter.Files[0].Path = "z" }, func(v *api.View) { v.Starter.Files[1].Content = "z" }, func(v *api.View) { v.Starter.Files = v.Starter.Files[:1] }, func(v *api.View) { v.Hidden.Files[0].Content = "z" }, func(v *api.View) { v.Hidden.Files = nil },
		func(v *api.View) { v.Marks = v.Marks[:1] }, func(v *api.View) { v.Marks[0].Pair.Student = "z" }, func(v *api.View) { v.Marks[0].Pair.Task = "z" }, func(v *api.View) { v.Marks[0].Version = 7 }, func(v *api.View) { v.Marks[0].Pending = true }, func(v *api.View) { v.Marks[0].Grade.Kind = 2 }, func(v *api.View) { v.Marks[0].Grade.Issue.At = 2 }, func(v *api.View) { v.Marks[0].Grade.Score = 2 }, func(v *api.View) { v.Marks[0].Grade.Verdicts[1] = 3 }, func(v *api.View) { v.Marks[0], v.Marks[1] = v.Marks[1], v.Marks[0] },
	}
	for i, f := range changes {
		for k, g := range changes {
			a, b := view.Make(task(), marks(), "root", api.Instructor), view.Make(task(), marks(), "root", api.Instructor)
			f(&a)
			g(&b)
			if view.Same(a, b) != (i == k) {
				t.Errorf("Same of %d and %d", i, k)
			}
		}
	}
	if !view.Same(api.View{}, api.View{Marks: []api.Mark{}, Starter: api.Tree{Files: []api.Entry{}}}) {
		t.Error("nil and empty are the same")
	}
}

func TestP29_4_Students(t *testing.T) {
	want := view.Make(task(), marks(), "ann", api.Student)
	k, l := task(), marks()
	k.Hidden.Files[0].Content = "other"
	l[2] = api.Mark{Pair: l[2].Pair, Version: 7, Grade: api.Grade{Kind: 1, Score: 9}}
	l = append(l[:3:3], append([]api.Mark{{Pair: api.Pair{Student: "new", Task: "hw"}, Version: 1}}, l[3:]...)...)
	if got := view.Make(k, l, "ann", api.Student); !view.Same(got, want) {
		t.Errorf("%+v, want %+v", got, want)
	}
}
