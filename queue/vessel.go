package queue

import (
	"cmp"
	"container/heap"
)

// vessel is a vessel that is free from a tick on.
type vessel struct{ number, free int }

// vessels go by when they are free, and by their number where they are free at once.
type vessels []vessel

func (l vessels) Len() int { return len(l) }

func (l vessels) Less(i, j int) bool {
	return cmp.Or(cmp.Compare(l[i].free, l[j].free), cmp.Compare(l[i].number, l[j].number)) < 0
}

func (l vessels) Swap(i, j int) { l[i], l[j] = l[j], l[i] }

// pool is a heap of vessels, with the first one on top.
type pool struct{ vessels }

// Push is for the container package: put is what keeps the heap in order.
func (x *pool) Push(v any) { x.vessels = append(x.vessels, v.(vessel)) }

// Pop is for the container package: take is what keeps the heap in order.
func (x *pool) Pop() any {
	last := len(x.vessels) - 1
	v := x.vessels[last]
	x.vessels = x.vessels[:last]
	return v
}

// poolOf returns some vessels that are all free from 0 on.
func poolOf(count int) *pool {
	x := &pool{}
	for number := range count {
		x.put(vessel{number: number})
	}
	return x
}

func (x *pool) put(v vessel) { heap.Push(x, v) }

// take takes the vessel out that is free first.
func (x *pool) take() vessel { return heap.Pop(x).(vessel) }
