package tussle

import "tussle/api"

// transaction: its operations are kept only while it lives.
type transaction struct {
	number int
	ops    []api.Op
	stamp  int
	state  int
	agains int
	attempt
}

// attempt is all that begins anew when a transaction begins again.
type attempt struct {
	next      int
	wounded   bool
	waiting   bool
	registers [api.Registers]int
	reads     []api.Seen
	deferred  []func() // what undoes its changes of rows, in the order of the changes
}

func newTransaction(number int, ops []api.Op, stamp int) *transaction {
	return &transaction{number: number, ops: fresh(ops), stamp: stamp, state: api.Lives}
}

// find answers nil if there never was a transaction with this number.
func (s *Store) find(id int) *transaction {
	if id < 1 || id > len(s.txns) {
		return nil
	}
	return s.txns[id-1]
}

func (s *Store) findLiving(id int) (*transaction, api.Errno) {
	t := s.find(id)
	switch {
	case t == nil:
		return nil, api.ErrTxn
	case t.state != api.Lives:
		return nil, api.ErrEnded
	}
	return t, api.OK
}

func (t *transaction) told() api.Txn {
	return api.Txn{
		Stamp:     t.stamp,
		State:     t.state,
		Next:      t.next,
		Wounded:   t.wounded,
		Waiting:   t.waiting,
		Agains:    t.agains,
		Registers: fresh(t.registers[:]),
		Reads:     fresh(t.reads),
	}
}

// fresh copies a list into memory of its own. Not slices.Clone: of a list without an element that keeps hold of the memory behind it.
func fresh[T any](list []T) []T {
	out := make([]T, len(list))
	copy(out, list)
	return out
}
