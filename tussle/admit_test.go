package tussle_test

import (
	"math"
	"slices"
	"testing"

	"tussle/api"
	"tussle/tussle"
)

func TestAdmitGivesNumbersAndStamps(t *testing.T) {
	s := open(t, pairs(1, 10)...)
	mustAdmit(t, s, 1, read(1, 0), add(0, 0, 5), write(2, 0))
	mustAdmit(t, s, 2)
	mustTick(t, s, 10, api.OK)
	mustAdmit(t, s, 3, remove(7), stop(3))
	for id, stamp := range map[int]int{1: 1, 2: 2, 3: 13} {
		mustBeNew(t, s, id, stamp)
	}
	for _, id := range []int{math.MinInt, -3, -1, 0, 4, 5, math.MaxInt} {
		mustBeUnknown(t, s, id)
	}
}

func TestAdmitTakesTwelveOperations(t *testing.T) {
	ops := slices.Repeat([]api.Op{read(1, 3)}, api.MaxOps+1)
	s := open(t)
	mustAdmit(t, s, 1, ops[:api.MaxOps]...)
	mustAdmit(t, s, 2, ops[:api.MaxOps-1]...)
	mustRefuse(t, s, api.ErrLong, ops...)
	mustRefuse(t, s, api.ErrLong, make([]api.Op, 1<<20)...)
	mustAdmit(t, s, 3)
}

func TestAdmitAsksEachRegister(t *testing.T) {
	for name, op := range map[string]func(register int) api.Op{
		"B of Read":      func(r int) api.Op { return read(9, r) },
		"B of Write":     func(r int) api.Op { return write(9, r) },
		"A of Add":       func(r int) api.Op { return add(r, 0, 0) },
		"B of Add":       func(r int) api.Op { return add(0, r, 0) },
		"A and B of Add": func(r int) api.Op { return add(r, r, 0) },
		"A of Stop":      func(r int) api.Op { return stop(r) },
	} {
		t.Run(name, func(t *testing.T) {
			s := open(t)
			for _, r := range []int{math.MinInt, -4, -1, 4, 5, math.MaxInt} {
				mustRefuse(t, s, api.ErrOp, op(r))
				mustRefuse(t, s, api.ErrOp, op(r), op(0))
				mustRefuse(t, s, api.ErrOp, op(0), op(3), op(r))
			}
			for r := range 4 {
				mustAdmit(t, s, r+1, op(r))
			}
		})
	}
}

func TestAdmitAsksOnlyWhatAKindUses(t *testing.T) {
	for _, n := range edges {
		s := open(t)
		mustAdmit(t, s, 1, api.Op{Kind: api.Read, A: n, B: 3, C: n})
		mustAdmit(t, s, 2, api.Op{Kind: api.Write, A: n, B: 3, C: n})
		mustAdmit(t, s, 3, api.Op{Kind: api.Delete, A: n, B: n, C: n})
		mustAdmit(t, s, 4, api.Op{Kind: api.Add, A: 0, B: 3, C: n})
		mustAdmit(t, s, 5, api.Op{Kind: api.Stop, A: 3, B: n, C: n})
	}
}

func TestAdmitRefusesOtherKinds(t *testing.T) {
	s := open(t)
	for _, kind := range []int{math.MinInt, -5, -1, 0, 6, 7, 256 + api.Read, 1<<32 + api.Read, math.MaxInt} {
		mustRefuse(t, s, api.ErrOp, api.Op{Kind: kind})
		mustRefuse(t, s, api.ErrOp, remove(1), remove(2), api.Op{Kind: kind, A: 1, B: 1, C: 1})
	}
	for i, kind := range []int{api.Read, api.Write, api.Delete, api.Add, api.Stop} {
		mustAdmit(t, s, i+1, api.Op{Kind: kind})
	}
}

func TestAdmitAsksEachOfTwelveOperations(t *testing.T) {
	s := open(t)
	for i := range api.MaxOps {
		ops := slices.Repeat([]api.Op{remove(1)}, api.MaxOps)
		ops[i] = read(1, 4)
		mustRefuse(t, s, api.ErrOp, ops...)
	}
	mustAdmit(t, s, 1)
}

// filled is a store with as many transactions as may live.
func filled(t *testing.T) *tussle.Store {
	t.Helper()
	s := open(t, pairs(1, 10)...)
	for id := 1; id <= api.MaxTxns; id++ {
		mustAdmit(t, s, id, remove(id))
	}
	return s
}

func TestAdmitTakesTwelveTransactions(t *testing.T) {
	s := filled(t)
	mustRefuse(t, s, api.ErrFull)
	mustRefuse(t, s, api.ErrFull, read(1, 0))
	mustTick(t, s, 5, api.OK)
	mustRefuse(t, s, api.ErrFull)
	for id := 1; id <= api.MaxTxns; id++ {
		mustBeNew(t, s, id, id)
	}
	mustBeUnknown(t, s, api.MaxTxns+1)
}

func TestAdmitOneBelowTheEndOfTheClock(t *testing.T) {
	s := open(t)
	mustTick(t, s, api.MaxClock-1, api.OK)
	mustAdmit(t, s, 1, read(1, 0))
	mustBeNew(t, s, 1, api.MaxClock)
	mustRefuse(t, s, api.ErrClock, read(1, 0))
	mustBeUnknown(t, s, 2)
}

func TestAdmitAnswersTheErrorNamedFirst(t *testing.T) {
	long := slices.Repeat([]api.Op{remove(1)}, api.MaxOps+1)
	longAndWrong := make([]api.Op, api.MaxOps+1)
	wrong := []api.Op{remove(1), read(1, 4)}
	right := []api.Op{remove(1)}

	full, late, both := filled(t), open(t), filled(t)
	mustTick(t, late, api.MaxClock, api.OK)
	mustTick(t, both, api.MaxClock-api.MaxTxns, api.OK)

	mustRefuse(t, open(t), api.ErrLong, longAndWrong...)
	for _, s := range []*tussle.Store{full, late, both} {
		mustRefuse(t, s, api.ErrLong, long...)
		mustRefuse(t, s, api.ErrLong, longAndWrong...)
		mustRefuse(t, s, api.ErrOp, wrong...)
	}
	mustRefuse(t, full, api.ErrFull, right...)
	mustRefuse(t, late, api.ErrClock, right...)
	mustRefuse(t, both, api.ErrFull, right...)
}
