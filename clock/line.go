package clock

import (
	"maps"
	"slices"
)

// deadline is when something's time is up, and whose.
type deadline struct {
	at int64
	id int
}

// line is the deadlines that have not come, as a heap: the soonest is ahead. Where each id stands in it is kept beside it, so that one can be dropped wherever it is.
type line struct {
	list   []deadline
	places map[int]int
}

func (l *line) clone() line {
	return line{list: slices.Clone(l.list), places: maps.Clone(l.places)}
}

// Len is how many there are.
func (l *line) Len() int { return len(l.list) }

// Less tells whether the one at i is the sooner one. No two are alike, as their ids are not: so how the heap came about is not told by anything.
func (l *line) Less(i, k int) bool {
	a, b := l.list[i], l.list[k]
	if a.at != b.at {
		return a.at < b.at
	}
	return a.id < b.id
}

// Swap lets two change places.
func (l *line) Swap(i, k int) {
	l.list[i], l.list[k] = l.list[k], l.list[i]
	l.places[l.list[i].id] = i
	l.places[l.list[k].id] = k
}

// Push puts a deadline last.
func (l *line) Push(x any) {
	if d, ok := x.(deadline); ok {
		l.places[d.id] = len(l.list)
		l.list = append(l.list, d)
	}
}

// Pop takes the last one away.
func (l *line) Pop() any {
	last := len(l.list) - 1
	d := l.list[last]
	l.list = l.list[:last]
	delete(l.places, d.id)
	return d
}
