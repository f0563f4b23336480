package tussle

import "tussle/api"

// refusal asks in the order in which the document names the errors: the first that applies is the answer.
func (s *Store) refusal(ops []api.Op) api.Errno {
	switch {
	case len(ops) > api.MaxOps:
		return api.ErrLong
	case !allAllowed(ops):
		return api.ErrOp
	case s.living >= api.MaxTxns:
		return api.ErrFull
	case s.clock >= api.MaxClock:
		return api.ErrClock
	}
	return api.OK
}

func allAllowed(ops []api.Op) bool {
	for _, op := range ops {
		if !allowed(op) {
			return false
		}
	}
	return true
}

// allowed looks only at the fields that name a register: a row's key and Add's C may be any int, and a field that a kind does not use is not asked.
func allowed(op api.Op) bool {
	switch op.Kind {
	case api.Read, api.Write:
		return isRegister(op.B)
	case api.Delete:
		return true
	case api.Add:
		return isRegister(op.A) && isRegister(op.B)
	case api.Stop:
		return isRegister(op.A)
	}
	return false
}

func isRegister(n int) bool {
	return n >= 0 && n < api.Registers
}
