package subset

import (
	"bolter/api"
	"bolter/fault"
	"bolter/places"
)

// room is how many more sets there may be, in all modes together.
type room struct {
	left int
}

func (r *room) take() error {
	if r.left == 0 {
		return fault.ErrTooManyStates
	}
	r.left--
	return nil
}

// queue is the sets that are still to be looked at.
type queue struct {
	waiting []places.Set
}

func (q *queue) put(s places.Set) {
	q.waiting = append(q.waiting, s)
}

// take takes all that wait; what is told has no room behind it, where those that come later are put.
func (q *queue) take() []places.Set {
	n := len(q.waiting)
	taken := q.waiting[:n:n]
	q.waiting = q.waiting[n:]
	return taken
}

// finder numbers a mode's sets as they are found.
type finder struct {
	by      *reader
	left    *room
	numbers map[string]int // of each set that is found, by its text
	later   queue
	dense   api.Dense
}

func find(by *reader, left *room, active []int) (api.Dense, error) {
	// The empty set has its place from the beginning on: it counts, reached or not.
	if err := left.take(); err != nil {
		return api.Dense{}, err
	}
	f := finder{by: by, left: left, numbers: map[string]int{}}
	if err := f.all(by.start(active)); err != nil {
		return api.Dense{}, err
	}
	return f.dense, nil
}

func (f *finder) all(start places.Set) error {
	if _, err := f.number(start); err != nil {
		return err
	}
	for sets := f.later.take(); len(sets) > 0; sets = f.later.take() {
		for _, s := range sets {
			row, err := f.row(s)
			if err != nil {
				return err
			}
			f.dense.Next = append(f.dense.Next, row)
		}
	}
	return nil
}

func (f *finder) row(from places.Set) ([]int, error) {
	row := make([]int, rowLength)
	for b := range row {
		if like := f.by.like[b]; like < b {
			row[b] = row[like]
			continue
		}
		n, err := f.number(f.by.lead(from, b))
		if err != nil {
			return nil, err
		}
		row[b] = n
	}
	return row, nil
}

// number is that of the one set with this text, which is found now, if it was not found yet.
func (f *finder) number(s places.Set) (int, error) {
	text := s.Text()
	if n, ok := f.numbers[text]; ok {
		return n, nil
	}
	if s != (places.Set{}) {
		if err := f.left.take(); err != nil {
			return 0, err
		}
	}
	n := len(f.numbers)
	f.numbers[text] = n
	f.dense.Label = append(f.dense.Label, f.by.label(s))
	f.later.put(s)
	return n, nil
}
