// Package tussle: transactions that run step by step, with locks: see DOC.md.
package tussle

import (
	"sync"

	"tussle/api"
)

// Store is rows, transactions and locks.
type Store struct {
	mutex  sync.Mutex
	clock  int
	values map[int]int        // of each row that is there, by its key
	txns   []*transaction     // the one with the number n stands at n-1
	living int                // counted, so that Admit need not look at all that have ended
	holds  map[hold]int       // the mode in which a row is held by a transaction
	queues map[int][]api.Lock // of each row that somebody waits for, by its key
	wins   []int
}

// New makes a store with some rows (P3).
func New(rows []api.Row) (*Store, api.Errno) {
	if !keysRise(rows) {
		return nil, api.ErrOrder
	}
	return &Store{
		values: valuesByKey(rows),
		holds:  map[hold]int{},
		queues: map[int][]api.Lock{},
	}, api.OK
}

// Tick moves the clock on (P4).
func (s *Store) Tick(n int) api.Errno {
	s.mutex.Lock()
	defer s.mutex.Unlock()
	// Not clock+n > MaxClock: that sum may go round.
	if n < 0 || n > api.MaxClock-s.clock {
		return api.ErrClock
	}
	s.clock += n
	return api.OK
}

// Admit takes a transaction in (P4).
func (s *Store) Admit(ops []api.Op) (int, api.Errno) {
	s.mutex.Lock()
	defer s.mutex.Unlock()
	if e := s.refusal(ops); e != api.OK {
		return 0, e
	}
	s.clock++
	s.living++
	t := newTransaction(len(s.txns)+1, ops, s.clock)
	s.txns = append(s.txns, t)
	return t.number, api.OK
}

// Step does one step of a transaction (P5 to P7).
func (s *Store) Step(id int) (int, api.Errno) {
	s.mutex.Lock()
	defer s.mutex.Unlock()
	t, e := s.findLiving(id)
	if e != api.OK {
		return 0, e
	}
	return s.step(t), api.OK
}

// Call calls a transaction off (P8).
func (s *Store) Call(id int) api.Errno {
	s.mutex.Lock()
	defer s.mutex.Unlock()
	t, e := s.findLiving(id)
	if e != api.OK {
		return e
	}
	s.fail(t, api.Called)
	return api.OK
}

// Txn tells of a transaction (P9).
func (s *Store) Txn(id int) (api.Txn, api.Errno) {
	s.mutex.Lock()
	defer s.mutex.Unlock()
	t := s.find(id)
	if t == nil {
		return api.Txn{}, api.ErrTxn
	}
	return t.told(), api.OK
}

// Locks tells who holds a row, and who waits for it (P9).
func (s *Store) Locks(key int) ([]api.Lock, []api.Lock) {
	s.mutex.Lock()
	defer s.mutex.Unlock()
	return s.holders(key), fresh(s.queues[key])
}

// Rows tells the rows (P9).
func (s *Store) Rows() []api.Row {
	s.mutex.Lock()
	defer s.mutex.Unlock()
	return sortedRows(s.values)
}

// Wins tells the transactions that have committed (P9).
func (s *Store) Wins() []int {
	s.mutex.Lock()
	defer s.mutex.Unlock()
	return fresh(s.wins)
}
