package depgraph

import (
	"container/heap"

	"classroom/api"
)

// edge is an import of a package of the list.
type edge struct {
	to   int
	path string
	at   int
}

// edges returns the imports of each package, in the order of files and imports.
func edges(l []api.Package) [][]edge {
	first := map[string]int{}
	for i, p := range l {
		if _, ok := first[p.Dir]; !ok {
			first[p.Dir] = i
		}
	}
	all := make([][]edge, len(l))
	for i, p := range l {
		for k, f := range p.Files {
			for _, x := range f.Imports {
				if to, ok := first[x.Path]; ok {
					all[i] = append(all[i], edge{to: to, path: pathOf(p, k), at: x.At})
				}
			}
		}
	}
	return all
}

// forward returns the packages that each package imports.
func forward(all [][]edge) [][]int {
	next := make([][]int, len(all))
	for i, l := range all {
		for _, e := range l {
			next[i] = append(next[i], e.to)
		}
	}
	return next
}

// backward returns the packages that import each package.
func backward(all [][]edge) [][]int {
	next := make([][]int, len(all))
	for i, l := range all {
		for _, e := range l {
			next[e.to] = append(next[e.to], i)
		}
	}
	return next
}

// smallest is a heap of indexes.
type smallest []int

func (h smallest) Len() int           { return len(h) }
func (h smallest) Less(i, k int) bool { return h[i] < h[k] }
func (h smallest) Swap(i, k int)      { h[i], h[k] = h[k], h[i] }

// Push is called by package heap.
func (h *smallest) Push(x any) {
	if i, ok := x.(int); ok {
		*h = append(*h, i)
	}
}

// Pop is called by package heap.
func (h *smallest) Pop() any {
	last := len(*h) - 1
	i := (*h)[last]
	*h = (*h)[:last]
	return i
}

// Order returns the indexes of the packages in an order in which every package comes after those that it imports.
func Order(l []api.Package) ([]int, api.Issue) {
	all := edges(l)
	importers := backward(all)
	waits := make([]int, len(l)) // how many imports have not been placed
	ready := &smallest{}
	for i := range l {
		waits[i] = len(all[i])
		if waits[i] == 0 {
			heap.Push(ready, i)
		}
	}
	var order []int
	for ready.Len() > 0 {
		i, _ := heap.Pop(ready).(int)
		order = append(order, i)
		for _, k := range importers[i] {
			waits[k]--
			if waits[k] == 0 {
				heap.Push(ready, k)
			}
		}
	}
	if len(order) < len(l) {
		return nil, cycle(all, importers, waits)
	}
	return order, api.Issue{}
}

// cycle returns the issue for the first package that imports itself directly or indirectly. Only packages that still
// wait can be it.
func cycle(all [][]edge, importers [][]int, waits []int) api.Issue {
	for i := range all {
		if waits[i] == 0 {
			continue
		}
		back := reach(importers, []int{i})
		for _, e := range all[i] {
			if back[e.to] {
				return api.Issue{Err: api.ErrCycle, Path: e.path, At: e.at}
			}
		}
	}
	return api.Issue{}
}

// reach returns which indexes can be reached from some, which are reached themselves.
func reach(next [][]int, from []int) []bool {
	reached := make([]bool, len(next))
	var todo []int
	visit := func(l []int) {
		for _, i := range l {
			if !reached[i] {
				reached[i] = true
				todo = append(todo, i)
			}
		}
	}
	visit(from)
	for len(todo) > 0 {
		i := todo[len(todo)-1]
		todo = todo[:len(todo)-1]
		visit(next[i])
	}
	return reached
}

// Deps returns the indexes of all packages that package k imports directly or indirectly.
func Deps(l []api.Package, k int) []int {
	if k < 0 || k >= len(l) {
		return nil
	}
	next := forward(edges(l))
	var deps []int
	for i, reached := range reach(next, next[k]) {
		if reached {
			deps = append(deps, i)
		}
	}
	return deps
}
