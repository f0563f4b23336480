package tussle

import "tussle/api"

// transaction: the fields from next on are the attempt's, and begin again with it; those ahead of it stay.
type transaction struct {
	ops       []api.Op
	stamp     int
	state     int
	agains    int
	next      int
	wounded   bool
	waiting   bool
	registers [api.Registers]int
	reads     []api.Seen
}

func newTransaction(ops []api.Op, stamp int) *transaction {
	return &transaction{ops: fresh(ops), stamp: stamp, state: api.Lives}
}

// find answers nil if there never was a transaction with this number.
func (s *Store) find(id int) *transaction {
	if id < 1 || id > len(s.txns) {
		return nil
	}
	return s.txns[id-1]
}

func (t *transaction) told() api.Txn {
	return api.Txn{
		Stamp:     t.stamp,
		State:     t.state,
		Next:      t.next,
		Wounded:   t.wounded,
		Waiting:   t.waiting,
		Agains:    t.agains,
		Registers: fresh(t.registers[:]),
		Reads:     fresh(t.reads),
	}
}

// fresh copies a list into memory of its own. Not slices.Clone: of a list without an element that keeps hold of the memory behind it.
func fresh[T any](list []T) []T {
	out := make([]T, len(list))
	copy(out, list)
	return out
}
