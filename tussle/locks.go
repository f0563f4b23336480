package tussle

import (
	"cmp"
	"slices"

	"tussle/api"
)

// hold: a row and a transaction that holds it.
type hold struct {
	row, txn int
}

// modeOf is the mode in which an operation wants its row, and 0 for an operation that wants none.
func modeOf(op api.Op) int {
	switch op.Kind {
	case api.Read:
		return api.Shared
	case api.Write, api.Delete:
		return api.Whole
	}
	return 0
}

// holdsAsGood compares numbers: a better mode has a greater one, what is not held has 0 in the map, and who wants no row has it.
func (s *Store) holdsAsGood(row int, want api.Lock) bool {
	return s.holds[hold{row, want.Txn}] >= want.Mode
}

func conflict(one, other api.Lock) bool {
	return one.Txn != other.Txn && (one.Mode == api.Whole || other.Mode == api.Whole)
}

// holders are sorted by their numbers: a map is gone through in no order.
func (s *Store) holders(row int) []api.Lock {
	var holders []api.Lock
	for at, mode := range s.holds {
		if at.row == row {
			holders = append(holders, api.Lock{Txn: at.txn, Mode: mode})
		}
	}
	slices.SortFunc(holders, func(a, b api.Lock) int { return cmp.Compare(a.Txn, b.Txn) })
	return holders
}

func (s *Store) rowsHeldBy(t *transaction) []int {
	var rows []int
	for at := range s.holds {
		if at.txn == t.number {
			rows = append(rows, at.row)
		}
	}
	slices.Sort(rows)
	return rows
}

// rowsWithLocks asks for holders only: a row that somebody waits for has one, since grant never leaves a queue at a row that nobody holds.
func (s *Store) rowsWithLocks() []int {
	var rows []int
	for at := range s.holds {
		rows = append(rows, at.row)
	}
	slices.Sort(rows)
	return slices.Compact(rows)
}

// crowded: with this row, too many would have locks.
func (s *Store) crowded(row int) bool {
	rows := s.rowsWithLocks()
	return len(rows) >= api.MaxRows && !slices.Contains(rows, row)
}

// fits: none of the row's holders stands against this lock.
func (s *Store) fits(row int, want api.Lock) bool {
	for _, held := range s.holders(row) {
		if conflict(want, held) {
			return false
		}
	}
	return true
}

// free: the row may be had at once. One that would fit waits all the same, if others wait: else they might wait for ever.
func (s *Store) free(row int, want api.Lock) bool {
	return len(s.queues[row]) == 0 && s.fits(row, want)
}

func (s *Store) take(row int, lock api.Lock) {
	s.holds[hold{row, lock.Txn}] = lock.Mode
}

// wait wounds ahead of joining the queue: all that wait by then wait ahead of it.
func (s *Store) wait(row int, want api.Lock) {
	t := s.find(want.Txn)
	s.wound(s.holders(row), t, want)
	s.wound(s.queues[row], t, want)
	s.queues[row] = append(s.queues[row], want)
	t.waiting = true
}

func (s *Store) wound(locks []api.Lock, t *transaction, want api.Lock) {
	for _, lock := range locks {
		other := s.find(lock.Txn)
		if conflict(want, lock) && t.stamp < other.stamp {
			other.wounded = true
		}
	}
}

func (s *Store) letAllGo(t *transaction) {
	for _, row := range s.rowsHeldBy(t) {
		delete(s.holds, hold{row, t.number})
		s.grant(row)
	}
}

func (s *Store) leaveQueue(t *transaction) {
	row := t.ops[t.next].A
	s.queues[row] = slices.DeleteFunc(s.queues[row], func(lock api.Lock) bool { return lock.Txn == t.number })
	t.waiting = false
	s.grant(row)
}

// grant gives the row to those at the head of its queue, as many as it fits.
func (s *Store) grant(row int) {
	queue := s.queues[row]
	for len(queue) > 0 && s.fits(row, queue[0]) {
		s.take(row, queue[0])
		s.find(queue[0].Txn).waiting = false
		queue = queue[1:]
	}
	s.queues[row] = queue
	if len(queue) == 0 {
		delete(s.queues, row)
	}
}
