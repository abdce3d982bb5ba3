package causal

import (
	"container/heap"
	"slices"

	"osier/api"
	"osier/ops"
)

// taking is operations that are taken in one by one. Its numbers are places in the row, which is sorted by ops.Less, so that the least number is the least operation.
type taking struct {
	row   []api.Op
	there map[api.Dot]int   // which are there already, and as the how-manyth they came
	next  []int             // of each one, which of its Deps is to be looked at next: all ahead of it are there
	wait  map[api.Dot][]int // by a dot that isn't there: those that wait for it
	ready least
}

// Order are operations in the order in which they are taken in, and those that can't be.
func Order(l []api.Op) ([]api.Op, []api.Op) {
	t := taking{row: counting(l), there: make(map[api.Dot]int), wait: make(map[api.Dot][]int)}
	t.next = make([]int, len(t.row))
	for at := range t.row {
		t.look([]int{at})
	}
	var in []api.Op
	for len(t.ready) > 0 {
		o := t.row[heap.Pop(&t.ready).(int)]
		t.there[o.Id] = len(in)
		in = append(in, o)
		t.look(t.wait[o.Id])
	}
	return in, t.left()
}

// counting are the operations that may be, of several with one Id the first one, by ops.Less.
func counting(l []api.Op) []api.Op {
	first := make(map[api.Dot]int)
	var out []api.Op
	for i, o := range l {
		if _, there := first[o.Id]; there || !ops.Check(o) {
			continue
		}
		first[o.Id] = i
		o.Deps = slices.Clone(o.Deps)
		out = append(out, o)
	}
	slices.SortFunc(out, order)
	return out
}

// order is below 0, 0 or above 0, as a comes ahead of b, with it, or behind it.
func order(a, b api.Op) int {
	if ops.Less(a, b) {
		return -1
	}
	if ops.Less(b, a) {
		return 1
	}
	return 0
}

// look tells of each of these places whether it is ready now, or for which dot it waits.
// That a dot is there says that all ahead of it of its actor are, since each one's Deps have them: the dots that are there are the vector.
func (t *taking) look(places []int) {
round:
	for _, at := range places {
		for _, d := range t.row[at].Deps[t.next[at]:] {
			if _, there := t.there[d]; !there {
				t.wait[d] = append(t.wait[d], at)
				continue round
			}
			t.next[at]++
		}
		heap.Push(&t.ready, at)
	}
}

// left are those that aren't there.
func (t *taking) left() []api.Op {
	var out []api.Op
	for _, o := range t.row {
		if _, there := t.there[o.Id]; !there {
			out = append(out, o)
		}
	}
	return out
}

// least is a heap of numbers.
type least []int

// Len is how many there are.
func (l least) Len() int { return len(l) }

// Less tells whether one is below another one.
func (l least) Less(i, j int) bool { return l[i] < l[j] }

// Swap puts each of two at the other's place.
func (l least) Swap(i, j int) { l[i], l[j] = l[j], l[i] }

// Push puts a number at the end.
func (l *least) Push(x any) { *l = append(*l, x.(int)) }

// Pop takes the number at the end away.
func (l *least) Pop() any {
	last := len(*l) - 1
	x := (*l)[last]
	*l = (*l)[:last]
	return x
}
