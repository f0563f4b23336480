package tussle

// undo leaves the transaction as it was ahead of its first operation.
func (s *Store) undo(t *transaction) {
	t.runDeferred()
	if t.waiting {
		s.leaveQueue(t)
	}
	s.letAllGo(t)
	t.attempt = attempt{}
}

// putBack is to be deferred ahead of a change of the row: it keeps what the row is now.
func (s *Store) putBack(row int) func() {
	value, there := s.values[row]
	if !there {
		return func() { delete(s.values, row) }
	}
	return func() { s.values[row] = value }
}

// runDeferred hands the list to the language: deferred calls run the latest first, as undoing must.
func (a *attempt) runDeferred() {
	for _, putBack := range a.deferred {
		defer putBack()
	}
}
