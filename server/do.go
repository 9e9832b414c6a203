package server

import (
	"slices"

	"classroom/api"
	"classroom/grader"
	"classroom/ledger"
	"classroom/manifest"
	"classroom/policy"
	"classroom/queue"
	"classroom/roster"
	"classroom/treecodec"
	"classroom/view"
)

// Do executes a command.
func (s *Server) Do(c api.Command) api.Reply {
	if s == nil || s.room == 0 {
		return api.Reply{Err: api.ErrDead}
	}
	if c.Kind < api.CmEnroll || c.Kind > api.CmView {
		return api.Reply{Err: api.ErrRange}
	}
	role, ok := roster.Role(s.users, c.Actor)
	if !ok {
		return api.Reply{Err: api.ErrUser}
	}
	if !may(role, c.Kind) {
		return api.Reply{Err: api.ErrRole}
	}
	switch c.Kind {
	case api.CmEnroll:
		return api.Reply{Err: s.enroll(c)}
	case api.CmPublish:
		return api.Reply{Err: s.publish(c)}
	case api.CmSubmit:
		return api.Reply{Err: s.submit(c)}
	case api.CmStep:
		return api.Reply{Done: s.step()}
	case api.CmEvict:
		return api.Reply{Err: s.evict(c)}
	}
	i, ok := s.find(c.Task)
	if !ok {
		return api.Reply{Err: api.ErrNone}
	}
	return api.Reply{View: view.Make(s.tasks[i], s.marks, c.Actor, role)}
}

// may reports whether a user with this role may give such a command.
func may(role, kind int) bool {
	switch kind {
	case api.CmView:
		return true
	case api.CmSubmit:
		return role == api.Student
	}
	return role == api.Instructor
}

func (s *Server) enroll(c api.Command) api.Errno {
	users, e := roster.Add(s.users, c.User, c.Role)
	if e == api.OK {
		s.users = users
	}
	return e
}

func (s *Server) publish(c api.Command) api.Errno {
	m, _, e := manifest.Parse(c.Text)
	if e != api.OK {
		return e
	}
	t := api.Task{Manifest: m, Starter: cloneTree(c.Tree), Hidden: cloneTree(c.Other)}
	if e := policy.CheckTask(t); e != api.OK {
		return e
	}
	i, found := s.find(m.Name)
	if !found && len(s.tasks) == api.MaxTasks {
		return api.ErrLong
	}
	var changed []api.Pair
	if found {
		changed = s.changed(s.tasks[i], t)
	}
	q, e := queue.PushAll(s.queue, s.room, changed)
	if e != api.OK {
		return e
	}
	tasks := slices.Clone(s.tasks)
	if found {
		tasks[i] = t
	} else {
		tasks = slices.Insert(tasks, i, t)
	}
	s.tasks, s.queue = tasks, q
	for _, p := range changed {
		s.marks, _ = ledger.Reopen(s.marks, p)
	}
	return api.OK
}

// changed returns the submissions whose grade may change when a task takes the place of another one.
func (s *Server) changed(old, t api.Task) []api.Pair {
	var l []api.Pair
	for _, m := range ledger.Of(s.marks, t.Manifest.Name) {
		over := s.submissions[m.Pair]
		if grader.Key(old, over) != grader.Key(t, over) {
			l = append(l, m.Pair)
		}
	}
	return l
}

func (s *Server) submit(c api.Command) api.Errno {
	if _, ok := s.find(c.Task); !ok {
		return api.ErrNone
	}
	if _, e := treecodec.Encode(c.Tree); e != api.OK {
		return e
	}
	p := api.Pair{Student: c.Actor, Task: c.Task}
	q, e := queue.Push(s.queue, s.room, p)
	if e != api.OK {
		return e
	}
	s.submissions[p] = cloneTree(c.Tree)
	s.marks, s.queue = ledger.Submit(s.marks, p), q
	return api.OK
}

// step grades the first pair of the queue, and reports whether there was one.
func (s *Server) step() bool {
	rest, p, ok := queue.Pop(s.queue)
	if !ok {
		return false
	}
	if i, found := s.find(p.Task); found {
		g := grader.Grade(s.tasks[i], s.submissions[p], s.cache)
		s.marks, _ = ledger.Complete(s.marks, p, g)
	}
	s.queue = rest
	return true
}

func (s *Server) evict(c api.Command) api.Errno {
	if c.Number < 0 {
		return api.ErrRange
	}
	s.cache.Evict(c.Number)
	return api.OK
}
