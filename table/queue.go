package table

import (
	"container/heap"

	"toller/api"
)

// slot is one that is kept, and where it stands in a queue.
type slot struct {
	api.Slot
	// due is when its key may be drained: not ahead of it, for no FILL goes down
	// by more than one each nanosecond. It may be later, by a State that is of a
	// time to come.
	due   uint64
	place int
}

// queue is slots, the one that is due first in front.
type queue []*slot

// join puts a slot in.
func (q *queue) join(s *slot) {
	heap.Push(q, s)
}

// leave takes a slot out.
func (q *queue) leave(s *slot) {
	heap.Remove(q, s.place)
}

// Len is how many stand in the queue.
func (q queue) Len() int {
	return len(q)
}

// Less says whether one is due ahead of another one.
func (q queue) Less(i, j int) bool {
	return q[i].due < q[j].due
}

// Swap has two change places.
func (q queue) Swap(i, j int) {
	q[i], q[j] = q[j], q[i]
	q[i].place, q[j].place = i, j
}

// Push is for container/heap alone: who joins does so by join.
func (q *queue) Push(x any) {
	s := x.(*slot)
	s.place = len(*q)
	*q = append(*q, s)
}

// Pop is for container/heap alone: who leaves does so by leave.
func (q *queue) Pop() any {
	last := len(*q) - 1
	s := (*q)[last]
	// Else the memory behind the queue would keep who left.
	(*q)[last] = nil
	*q = (*q)[:last]
	return s
}
