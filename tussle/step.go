package tussle

import "tussle/api"

// step asks in the document's order: the first case that applies is the one.
func (s *Store) step(t *transaction) int {
	switch {
	case t.wounded:
		s.beginAgain(t)
		return api.Again
	case t.waiting:
		return api.Waits
	case t.next == len(t.ops):
		s.commit(t)
		return api.Committed
	}
	op := t.ops[t.next]
	want := api.Lock{Txn: t.number, Mode: modeOf(op)}
	if !s.holdsAsGood(op.A, want) {
		switch {
		case s.crowded(op.A):
			s.fail(t, api.Fell)
			return api.Crowded
		case !s.free(op.A, want):
			s.wait(op.A, want)
			return api.Waits
		}
		s.take(op.A, want)
	}
	if op.Kind == api.Stop && t.registers[op.A] == 0 {
		s.fail(t, api.Gave)
		return api.Stopped
	}
	s.do(t, op)
	return api.Did
}

func (s *Store) do(t *transaction, op api.Op) {
	switch op.Kind {
	case api.Read:
		value, there := s.values[op.A]
		t.registers[op.B] = value
		t.reads = append(t.reads, api.Seen{Key: op.A, There: there, Value: value})
	case api.Write:
		t.deferred = append(t.deferred, s.putBack(op.A))
		s.values[op.A] = t.registers[op.B]
	case api.Delete:
		t.deferred = append(t.deferred, s.putBack(op.A))
		delete(s.values, op.A)
	case api.Add:
		t.registers[op.A] += t.registers[op.B] + op.C
	}
	t.next++
}

func (s *Store) beginAgain(t *transaction) {
	s.undo(t)
	t.agains++
}

// fail ends a transaction of which nothing is to stay.
func (s *Store) fail(t *transaction, state int) {
	s.undo(t)
	s.end(t, state)
}

func (s *Store) commit(t *transaction) {
	s.letAllGo(t)
	t.deferred = nil
	s.wins = append(s.wins, t.number)
	s.end(t, api.Won)
}

// end drops the operations: nobody can ask for them any more.
func (s *Store) end(t *transaction, state int) {
	t.state = state
	t.ops = nil
	s.living--
}
