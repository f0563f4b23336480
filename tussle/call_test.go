package tussle_test

import (
	"math"
	"testing"

	"tussle/api"
)

func TestCallOfNone(t *testing.T) {
	s := open(t, pairs(1, 10)...)
	for _, id := range edges {
		mustNotCall(t, s, id, api.ErrTxn)
	}
	mustAdmit(t, s, 1, remove(1))
	mustAdmit(t, s, 2, remove(1))
	for _, id := range []int{math.MinInt, -2, -1, 0, 3, 4, 1 << 32, 1<<32 + 1, math.MaxInt} {
		mustNotCall(t, s, id, api.ErrTxn)
	}
	mustBeNew(t, s, 1, 1)
	mustBeNew(t, s, 2, 2)
	mustBeUnknown(t, s, 3)
}

// Whatever its end was, it stays so, with all that is told of it.
func TestCallOfOneThatEnded(t *testing.T) {
	s := crowd(t)
	mustAdmit(t, s, 3, write(99, 0))
	mustAdmit(t, s, 4, read(15, 0), stop(1))
	mustAdmit(t, s, 5, add(2, 3, 4))
	mustAdmit(t, s, 6, add(2, 3, 4))
	mustStep(t, s, 3, api.Crowded)
	mustStep(t, s, 4, api.Did, api.Stopped)
	mustStep(t, s, 5, api.Did, api.Committed)
	mustStep(t, s, 6, api.Did)
	mustCall(t, s, 6)
	for range 2 {
		for id := 3; id <= 6; id++ {
			mustNotCall(t, s, id, api.ErrEnded)
		}
	}
	mustBeTold(t, s, 3, api.Txn{Stamp: 3, State: api.Fell})
	mustBeTold(t, s, 4, api.Txn{Stamp: 4, State: api.Gave})
	mustBeTold(t, s, 5, api.Txn{Stamp: 5, State: api.Won, Next: 1, Registers: []int{0, 0, 4, 0}})
	mustBeTold(t, s, 6, api.Txn{Stamp: 6, State: api.Called})
	mustHaveWon(t, s, 5)
}

// Called off behind each of its operations, from none to all: nothing of it is left in the rows.
func TestCallOfOneThatRuns(t *testing.T) {
	rows := pairs(-3, 30, 0, 0, 5, 50)
	ops := []api.Op{read(5, 0), add(1, 0, 9), write(5, 1), write(-9, 1), remove(-3), remove(5), write(8, 1), remove(0), write(0, 1), write(5, 0), read(-9, 3), remove(8)}
	for steps := range len(ops) + 1 {
		s := open(t, rows...)
		mustAdmit(t, s, 1, ops...)
		for range steps {
			mustStep(t, s, 1, api.Did)
		}
		mustCall(t, s, 1)
		mustHaveRows(t, s, rows)
		mustBeTold(t, s, 1, api.Txn{Stamp: 1, State: api.Called})
		for _, op := range ops {
			mustHaveLocks(t, s, op.A, "", "")
		}
		mustNotStep(t, s, 1, api.ErrEnded)
		mustNotCall(t, s, 1, api.ErrEnded)
		mustHaveWon(t, s)
	}
}

func TestCallOfOneWithoutOperations(t *testing.T) {
	s := open(t)
	mustAdmit(t, s, 1)
	mustCall(t, s, 1)
	mustBeTold(t, s, 1, api.Txn{Stamp: 1, State: api.Called})
	mustNotStep(t, s, 1, api.ErrEnded)
	mustHaveWon(t, s)
}

// It leaves the midst of a queue, and what it holds elsewhere is let go.
func TestCallOfOneThatWaits(t *testing.T) {
	s := open(t, pairs(7, 70, 8, 80)...)
	mustAdmit(t, s, 1, write(7, 0))
	mustAdmit(t, s, 2, read(7, 0))
	mustAdmit(t, s, 3, remove(8), read(8, 2), write(7, 0))
	mustAdmit(t, s, 4, read(7, 0))
	mustAdmit(t, s, 5, read(8, 0))
	mustStep(t, s, 1, api.Did)
	mustStep(t, s, 3, api.Did, api.Did)
	for id := 2; id <= 5; id++ {
		mustStep(t, s, id, api.Waits)
	}
	mustHaveLocks(t, s, 7, "1W", "2S,3W,4S")
	mustHaveLocks(t, s, 8, "3W", "5S")
	mustCall(t, s, 3)
	mustBeTold(t, s, 3, api.Txn{Stamp: 3, State: api.Called})
	mustHaveLocks(t, s, 7, "1W", "2S,4S")
	mustHaveLocks(t, s, 8, "5S", "")
	mustWait(t, s, 2, 4)
	mustBeWounded(t, s)
	mustHaveRows(t, s, pairs(7, 0, 8, 80))
	mustStep(t, s, 5, api.Did)
	mustBeTold(t, s, 5, api.Txn{Stamp: 5, Next: 1, Registers: []int{80, 0, 0, 0}, Reads: []api.Seen{{Key: 8, There: true, Value: 80}}})
}

// The head of a queue held up those behind it, who fit beside the holders.
func TestCallOfTheHeadOfAQueue(t *testing.T) {
	s := open(t)
	mustAdmit(t, s, 1, read(7, 0))
	mustAdmit(t, s, 2, write(7, 0))
	mustAdmit(t, s, 3, read(7, 0))
	mustAdmit(t, s, 4, read(7, 0))
	mustAdmit(t, s, 5, write(7, 0))
	mustAdmit(t, s, 6, read(7, 0))
	mustStep(t, s, 1, api.Did)
	for id := 2; id <= 6; id++ {
		mustStep(t, s, id, api.Waits)
	}
	mustCall(t, s, 2)
	mustHaveLocks(t, s, 7, "1S,3S,4S", "5W,6S")
	mustWait(t, s, 5, 6)
	mustCall(t, s, 5)
	mustHaveLocks(t, s, 7, "1S,3S,4S,6S", "")
	mustWait(t, s)
}

// It holds the row, and waits for the same row in the greater mode.
func TestCallOfOneThatWaitsForWhatItHolds(t *testing.T) {
	s := open(t)
	mustAdmit(t, s, 1, read(7, 0))
	mustAdmit(t, s, 2, read(7, 0), write(7, 0))
	mustAdmit(t, s, 3, read(7, 0))
	mustAdmit(t, s, 4, write(7, 0))
	mustStep(t, s, 1, api.Did)
	mustStep(t, s, 2, api.Did, api.Waits)
	mustStep(t, s, 3, api.Waits)
	mustStep(t, s, 4, api.Waits)
	mustHaveLocks(t, s, 7, "1S,2S", "2W,3S,4W")
	mustCall(t, s, 2)
	mustHaveLocks(t, s, 7, "1S,3S", "4W")
	mustBeTold(t, s, 2, api.Txn{Stamp: 2, State: api.Called})
	mustCall(t, s, 1)
	mustHaveLocks(t, s, 7, "3S", "4W")
	mustCall(t, s, 3)
	mustHaveLocks(t, s, 7, "4W", "")
}

// A call off is not a beginning again: who wounded it gets the row at once.
func TestCallOfAWoundedOne(t *testing.T) {
	s := open(t, pairs(7, 70)...)
	mustAdmit(t, s, 1, read(7, 0), write(8, 0))
	mustAdmit(t, s, 2, add(1, 1, 5), write(7, 1), remove(8))
	mustStep(t, s, 2, api.Did, api.Did)
	mustStep(t, s, 1, api.Waits)
	mustBeWounded(t, s, 2)
	mustCall(t, s, 2)
	mustBeTold(t, s, 2, api.Txn{Stamp: 2, State: api.Called})
	mustHaveLocks(t, s, 7, "1S", "")
	mustHaveRows(t, s, pairs(7, 70))
	mustStep(t, s, 1, api.Did, api.Did, api.Committed)
	mustHaveRows(t, s, pairs(7, 70, 8, 70))
	mustHaveWon(t, s, 1)
}

func TestCallOfAWoundedOneThatWaits(t *testing.T) {
	s := open(t, pairs(7, 70, 8, 80)...)
	mustAdmit(t, s, 1, remove(7), remove(8))
	mustAdmit(t, s, 2, write(8, 0), read(7, 0))
	mustStep(t, s, 1, api.Did)
	mustStep(t, s, 2, api.Did, api.Waits)
	mustStep(t, s, 1, api.Waits)
	mustBeWounded(t, s, 2)
	mustWait(t, s, 1, 2)
	mustCall(t, s, 2)
	mustBeTold(t, s, 2, api.Txn{Stamp: 2, State: api.Called})
	mustHaveLocks(t, s, 7, "1W", "")
	mustHaveLocks(t, s, 8, "1W", "")
	mustHaveRows(t, s, pairs(8, 80))
	mustStep(t, s, 1, api.Did, api.Committed)
	mustHaveRows(t, s, nil)
}

// How often it began again is told of one that was called off, too.
func TestCallOfOneThatBeganAgain(t *testing.T) {
	s := open(t, pairs(7, 70)...)
	mustAdmit(t, s, 1, write(7, 0))
	mustAdmit(t, s, 2, remove(7))
	mustStep(t, s, 2, api.Did)
	mustStep(t, s, 1, api.Waits)
	mustStep(t, s, 2, api.Again, api.Waits)
	mustCall(t, s, 2)
	mustBeTold(t, s, 2, api.Txn{Stamp: 2, State: api.Called, Agains: 1})
	mustStep(t, s, 1, api.Did, api.Committed)
	mustHaveRows(t, s, pairs(7, 0))
}

// A wound stays till the next step, even if nobody is left that it was for.
func TestCallOfTheOneThatWounded(t *testing.T) {
	s := open(t)
	mustAdmit(t, s, 1, write(7, 0))
	mustAdmit(t, s, 2, write(7, 0))
	mustStep(t, s, 2, api.Did)
	mustStep(t, s, 1, api.Waits)
	mustCall(t, s, 1)
	mustBeWounded(t, s, 2)
	mustHaveLocks(t, s, 7, "2W", "")
	mustHaveRows(t, s, pairs(7, 0))
	mustStep(t, s, 2, api.Again)
	mustHaveLocks(t, s, 7, "", "")
	mustHaveRows(t, s, nil)
	mustStep(t, s, 2, api.Did, api.Committed)
}

// A wounded one that gets a row by a call has it till its next step, which begins again.
func TestAWoundedOneGetsARowByACall(t *testing.T) {
	s := open(t)
	mustAdmit(t, s, 1, write(7, 0))
	mustAdmit(t, s, 2, read(7, 0))
	mustAdmit(t, s, 3, write(7, 0))
	mustStep(t, s, 1, api.Did)
	mustStep(t, s, 3, api.Waits)
	mustStep(t, s, 2, api.Waits)
	mustCall(t, s, 1)
	mustBeWounded(t, s, 3)
	mustWait(t, s, 2)
	mustHaveLocks(t, s, 7, "3W", "2S")
	mustStep(t, s, 3, api.Again)
	mustHaveLocks(t, s, 7, "2S", "")
}

// Each row goes to the first ones of its queue, as many as fit, who find it as it was ahead of the one that was called off.
func TestWhatTheOthersGetByACall(t *testing.T) {
	for _, rows := range [][]api.Row{pairs(7, 70), nil} {
		s := open(t, rows...)
		mustAdmit(t, s, 1, add(1, 1, 3), write(8, 1), write(7, 1))
		mustAdmit(t, s, 2, read(7, 0))
		mustAdmit(t, s, 3, read(7, 0))
		mustAdmit(t, s, 4, write(7, 0))
		mustAdmit(t, s, 5, read(7, 0))
		mustAdmit(t, s, 6, remove(8))
		mustStep(t, s, 1, api.Did, api.Did, api.Did)
		for id := 2; id <= 6; id++ {
			mustStep(t, s, id, api.Waits)
		}
		mustCall(t, s, 1)
		mustHaveLocks(t, s, 7, "2S,3S", "4W,5S")
		mustHaveLocks(t, s, 8, "6W", "")
		mustWait(t, s, 4, 5)
		want := api.Seen{Key: 7}
		if len(rows) > 0 {
			want = api.Seen{Key: 7, There: true, Value: 70}
		}
		for id := 2; id <= 3; id++ {
			mustStep(t, s, id, api.Did)
			mustBeTold(t, s, id, api.Txn{Stamp: id, Next: 1, Registers: []int{want.Value, 0, 0, 0}, Reads: []api.Seen{want}})
		}
		mustStep(t, s, 6, api.Did)
		mustHaveRows(t, s, rows)
	}
}

// What others did, and hold, stays.
func TestACallLeavesTheOthersAlone(t *testing.T) {
	s := open(t, pairs(1, 10, 2, 20, 3, 30)...)
	mustAdmit(t, s, 1, write(1, 0), remove(2))
	mustAdmit(t, s, 2, write(3, 0), write(4, 0))
	mustAdmit(t, s, 3, add(1, 1, 6), write(5, 1), read(9, 0))
	mustStep(t, s, 1, api.Did)
	mustStep(t, s, 2, api.Did, api.Did, api.Committed)
	mustStep(t, s, 3, api.Did, api.Did, api.Did)
	mustStep(t, s, 1, api.Did)
	mustCall(t, s, 1)
	mustHaveRows(t, s, pairs(1, 10, 2, 20, 3, 0, 4, 0, 5, 6))
	mustHaveLocks(t, s, 5, "3W", "")
	mustHaveLocks(t, s, 9, "3S", "")
	mustBeTold(t, s, 3, api.Txn{Stamp: 3, Next: 3, Registers: []int{0, 6, 0, 0}, Reads: []api.Seen{{Key: 9}}})
	mustHaveWon(t, s, 2)
	mustStep(t, s, 3, api.Committed)
	mustHaveWon(t, s, 2, 3)
}

// One behind the other: each call makes room for one more, a refused one for none. The clock stays.
func TestACallMakesRoom(t *testing.T) {
	s := open(t)
	for id := 1; id <= api.MaxTxns; id++ {
		mustAdmit(t, s, id, write(7, 0))
		s.Step(id)
	}
	for id := 1; id <= api.MaxTxns; id++ {
		mustRefuse(t, s, api.ErrFull)
		mustCall(t, s, id)
		mustNotCall(t, s, id, api.ErrEnded)
		mustNotCall(t, s, 0, api.ErrTxn)
		mustAdmit(t, s, api.MaxTxns+id)
		mustBeNew(t, s, api.MaxTxns+id, api.MaxTxns+id)
	}
	mustRefuse(t, s, api.ErrFull)
	mustHaveLocks(t, s, 7, "", "")
	mustHaveRows(t, s, nil)
}

// With the clock at its end nothing can be admitted, but all can be called off.
func TestACallAtTheEndOfTheClock(t *testing.T) {
	s := open(t)
	mustAdmit(t, s, 1, write(7, 0))
	mustStep(t, s, 1, api.Did)
	mustTick(t, s, api.MaxClock-1, api.OK)
	mustCall(t, s, 1)
	mustHaveRows(t, s, nil)
	mustRefuse(t, s, api.ErrClock)
}

// The rows of one that was called off do not count as rows with locks any more.
func TestACallEndsACrowd(t *testing.T) {
	s := crowd(t)
	mustAdmit(t, s, 3, write(99, 0))
	mustAdmit(t, s, 4, write(99, 0))
	mustStep(t, s, 3, api.Crowded)
	mustCall(t, s, 1)
	mustStep(t, s, 4, api.Did)
	mustHaveLocks(t, s, 99, "4W", "")
}

func TestCallsOfTwoStores(t *testing.T) {
	first, second := open(t, pairs(1, 10)...), open(t, pairs(1, 10)...)
	mustAdmit(t, first, 1, remove(1))
	mustAdmit(t, second, 1, remove(1))
	mustStep(t, first, 1, api.Did)
	mustStep(t, second, 1, api.Did)
	mustCall(t, first, 1)
	mustHaveRows(t, first, pairs(1, 10))
	mustHaveRows(t, second, nil)
	mustHaveLocks(t, second, 1, "1W", "")
	mustStep(t, second, 1, api.Committed)
}
