package tussle_test

import (
	"math"
	"slices"
	"testing"

	"tussle/api"
	"tussle/tussle"
)

func TestStepOfNone(t *testing.T) {
	s := open(t, pairs(1, 10)...)
	for _, id := range edges {
		mustNotStep(t, s, id, api.ErrTxn)
	}
	mustAdmit(t, s, 1, remove(1))
	mustAdmit(t, s, 2, remove(1))
	for _, id := range []int{math.MinInt, -2, -1, 0, 3, 4, 1 << 32, 1<<32 + 1, math.MaxInt} {
		mustNotStep(t, s, id, api.ErrTxn)
	}
	mustBeNew(t, s, 1, 1)
	mustBeNew(t, s, 2, 2)
	mustHaveRows(t, s, pairs(1, 10))
}

func TestStepOfOneThatEnded(t *testing.T) {
	s := crowd(t)
	mustAdmit(t, s, 3, write(99, 0))
	mustAdmit(t, s, 4, read(15, 0), stop(1))
	mustAdmit(t, s, 5)
	mustStep(t, s, 3, api.Crowded)
	mustStep(t, s, 4, api.Did, api.Stopped)
	mustStep(t, s, 5, api.Committed)
	for range 2 {
		for id := 3; id <= 5; id++ {
			mustNotStep(t, s, id, api.ErrEnded)
		}
	}
	mustBeTold(t, s, 3, api.Txn{Stamp: 3, State: api.Fell})
	mustBeTold(t, s, 4, api.Txn{Stamp: 4, State: api.Gave})
	mustBeTold(t, s, 5, api.Txn{Stamp: 5, State: api.Won})
	mustHaveWon(t, s, 5)
}

// Whoever ends makes room for another one, however it ends; its number is not given again.
func TestWhoEndsMakesRoom(t *testing.T) {
	s := crowd(t)
	mustAdmit(t, s, 3, write(99, 0))
	mustAdmit(t, s, 4, stop(1))
	for id := 5; id <= api.MaxTxns; id++ {
		mustAdmit(t, s, id)
	}
	mustRefuse(t, s, api.ErrFull)
	mustStep(t, s, 3, api.Crowded)
	mustAdmit(t, s, 13)
	mustRefuse(t, s, api.ErrFull)
	mustStep(t, s, 4, api.Stopped)
	mustAdmit(t, s, 14)
	mustRefuse(t, s, api.ErrFull)
	mustStep(t, s, 5, api.Committed)
	mustAdmit(t, s, 15)
	mustRefuse(t, s, api.ErrFull)
	mustNotStep(t, s, 5, api.ErrEnded)
	mustRefuse(t, s, api.ErrFull)
}

func TestReadFindsARowOrNone(t *testing.T) {
	s := open(t, pairs(math.MinInt, math.MaxInt, 5, 0, math.MaxInt, -1)...)
	mustAdmit(t, s, 1, read(math.MinInt, 0), read(5, 1), read(math.MaxInt, 3), read(6, 0), read(math.MinInt, 2))
	mustStep(t, s, 1, api.Did, api.Did, api.Did)
	reads := []api.Seen{{Key: math.MinInt, There: true, Value: math.MaxInt}, {Key: 5, There: true}, {Key: math.MaxInt, There: true, Value: -1}}
	mustBeTold(t, s, 1, api.Txn{Stamp: 1, Next: 3, Registers: []int{math.MaxInt, 0, 0, -1}, Reads: reads})
	mustStep(t, s, 1, api.Did, api.Did)
	reads = append(reads, api.Seen{Key: 6}, reads[0])
	want := api.Txn{Stamp: 1, Next: 5, Registers: []int{0, 0, math.MaxInt, -1}, Reads: reads}
	mustBeTold(t, s, 1, want)
	mustStep(t, s, 1, api.Committed)
	want.State = api.Won
	mustBeTold(t, s, 1, want)
	mustHaveRows(t, s, pairs(math.MinInt, math.MaxInt, 5, 0, math.MaxInt, -1))
}

func TestWriteAndDelete(t *testing.T) {
	s := open(t, pairs(1, 10, 2, 20)...)
	mustAdmit(t, s, 1, add(2, 0, 7), write(1, 2), write(0, 2), write(3, 1), remove(2), remove(9), remove(3), write(2, 3), read(1, 0), read(3, 0))
	mustStep(t, s, 1, api.Did)
	for _, rows := range [][]api.Row{
		pairs(1, 7, 2, 20),
		pairs(0, 7, 1, 7, 2, 20),
		pairs(0, 7, 1, 7, 2, 20, 3, 0),
		pairs(0, 7, 1, 7, 3, 0),
		pairs(0, 7, 1, 7, 3, 0),
		pairs(0, 7, 1, 7),
		pairs(0, 7, 1, 7, 2, 0),
		pairs(0, 7, 1, 7, 2, 0),
		pairs(0, 7, 1, 7, 2, 0),
	} {
		mustStep(t, s, 1, api.Did)
		mustHaveRows(t, s, rows)
	}
	mustBeTold(t, s, 1, api.Txn{Stamp: 1, Next: 10, Registers: []int{0, 0, 7, 0}, Reads: []api.Seen{{Key: 1, There: true, Value: 7}, {Key: 3}}})
	mustStep(t, s, 1, api.Committed)
	mustHaveRows(t, s, pairs(0, 7, 1, 7, 2, 0))
}

func TestAddGoesRound(t *testing.T) {
	s := open(t)
	ops := []api.Op{add(0, 1, math.MaxInt), add(0, 1, 1), add(1, 1, 3), add(1, 1, 0), add(1, 1, -1), add(3, 1, 2), add(0, 0, 0), add(0, 3, -13), add(3, 0, math.MinInt)}
	mustAdmit(t, s, 1, ops...)
	for i, registers := range [][]int{
		{math.MaxInt, 0, 0, 0},
		{math.MinInt, 0, 0, 0},
		{math.MinInt, 3, 0, 0},
		{math.MinInt, 6, 0, 0},
		{math.MinInt, 11, 0, 0},
		{math.MinInt, 11, 0, 13},
		{0, 11, 0, 13},
		{0, 11, 0, 13},
		{0, 11, 0, math.MinInt + 13},
	} {
		mustStep(t, s, 1, api.Did)
		mustBeTold(t, s, 1, api.Txn{Stamp: 1, Next: i + 1, Registers: registers})
	}
	mustStep(t, s, 1, api.Committed)
}

// Registers are no rows: Add and Stop lock nothing, whatever their numbers.
func TestAddAndStopLockNothing(t *testing.T) {
	s := open(t)
	mustAdmit(t, s, 1, write(0, 0), write(1, 0), write(2, 0), write(3, 0))
	mustStep(t, s, 1, api.Did, api.Did, api.Did, api.Did)
	mustAdmit(t, s, 2, add(3, 2, 1), stop(3), add(0, 1, 0), stop(1))
	mustStep(t, s, 2, api.Did, api.Did, api.Did, api.Stopped)
	for row := range 4 {
		mustHaveLocks(t, s, row, "1W", "")
	}
	mustWait(t, s)
}

func TestStopAsksItsRegister(t *testing.T) {
	for register := range api.Registers {
		for _, value := range []int{math.MinInt, -1, 1, 2, math.MaxInt} {
			s := open(t, pairs(1, 10)...)
			mustAdmit(t, s, 1, remove(1), add(register, register, value), stop(register), stop((register+1)%api.Registers))
			mustStep(t, s, 1, api.Did, api.Did, api.Did)
			if x, _ := s.Txn(1); x.Next != 3 || x.State != api.Lives {
				t.Errorf("behind a Stop that did not stop: %+v", x)
			}
			mustStep(t, s, 1, api.Stopped)
			mustBeTold(t, s, 1, api.Txn{Stamp: 1, State: api.Gave})
			mustHaveRows(t, s, pairs(1, 10))
			mustHaveLocks(t, s, 1, "", "")
			mustHaveWon(t, s)
		}
	}
}

func TestOneWithoutOperationsCommits(t *testing.T) {
	s := open(t, pairs(1, 10)...)
	mustAdmit(t, s, 1)
	mustStep(t, s, 1, api.Committed)
	mustBeTold(t, s, 1, api.Txn{Stamp: 1, State: api.Won})
	mustHaveRows(t, s, pairs(1, 10))
	mustHaveWon(t, s, 1)
}

func TestCommitLetsAllGo(t *testing.T) {
	s := open(t)
	mustAdmit(t, s, 1, write(math.MaxInt, 0), read(math.MinInt, 0), write(0, 0), read(0, 0))
	mustStep(t, s, 1, api.Did, api.Did, api.Did, api.Did)
	mustHaveLocks(t, s, math.MaxInt, "1W", "")
	mustHaveLocks(t, s, math.MinInt, "1S", "")
	mustHaveLocks(t, s, 0, "1W", "")
	mustStep(t, s, 1, api.Committed)
	for _, row := range []int{math.MinInt, 0, math.MaxInt} {
		mustHaveLocks(t, s, row, "", "")
	}
	mustHaveRows(t, s, pairs(0, 0, math.MaxInt, 0))
}

// In the order in which they committed, not in that of their numbers.
func TestWinsAreInTheirOrder(t *testing.T) {
	s := open(t)
	for id := 1; id <= 5; id++ {
		mustAdmit(t, s, id)
	}
	mustAdmit(t, s, 6, stop(0))
	mustStep(t, s, 6, api.Stopped)
	order := []int{3, 5, 1, 4, 2}
	for i, id := range order {
		mustStep(t, s, id, api.Committed)
		mustHaveWon(t, s, order[:i+1]...)
	}
}

// A wounded one begins again whatever it is at: here all its operations are done, so that it would have committed.
func TestWoundedAheadOfItsCommit(t *testing.T) {
	s := open(t, pairs(7, 70)...)
	mustAdmit(t, s, 1, write(7, 0))
	mustAdmit(t, s, 2, read(7, 1), add(2, 1, 1))
	mustStep(t, s, 2, api.Did, api.Did)
	mustStep(t, s, 1, api.Waits)
	mustBeTold(t, s, 2, api.Txn{Stamp: 2, Next: 2, Wounded: true, Registers: []int{0, 70, 71, 0}, Reads: []api.Seen{{Key: 7, There: true, Value: 70}}})
	mustHaveLocks(t, s, 7, "2S", "1W")
	mustStep(t, s, 2, api.Again)
	mustBeTold(t, s, 2, api.Txn{Stamp: 2, Agains: 1})
	mustHaveLocks(t, s, 7, "1W", "")
	mustStep(t, s, 1, api.Did, api.Committed)
	mustStep(t, s, 2, api.Did)
	mustBeTold(t, s, 2, api.Txn{Stamp: 2, Next: 1, Agains: 1, Reads: []api.Seen{{Key: 7, There: true}}})
	mustStep(t, s, 2, api.Did, api.Committed)
	mustBeTold(t, s, 2, api.Txn{Stamp: 2, State: api.Won, Next: 2, Agains: 1, Registers: []int{0, 0, 1, 0}, Reads: []api.Seen{{Key: 7, There: true}}})
}

// Ahead of a Stop that would stop it, and of a row that would be one too many.
func TestWoundedAheadOfAnEnd(t *testing.T) {
	for _, last := range []api.Op{stop(0), write(99, 0)} {
		s := open(t)
		mustAdmit(t, s, 1, write(7, 0))
		mustAdmit(t, s, 2, write(7, 0), last)
		mustAdmit(t, s, 3, someRows(100, 12)...)
		mustAdmit(t, s, 4, someRows(200, 3)...)
		mustStep(t, s, 2, api.Did)
		mustStep(t, s, 3, slices.Repeat([]int{api.Did}, 12)...)
		mustStep(t, s, 4, api.Did, api.Did, api.Did)
		mustStep(t, s, 1, api.Waits)
		mustStep(t, s, 2, api.Again)
		mustBeTold(t, s, 2, api.Txn{Stamp: 2, Agains: 1})
	}
}

// It waits, is wounded, and begins again: Again goes ahead of Waits, and it leaves its queue.
func TestWoundedWhileItWaits(t *testing.T) {
	s := open(t)
	mustAdmit(t, s, 1, write(7, 0))
	mustAdmit(t, s, 2, write(8, 0))
	mustAdmit(t, s, 3, write(7, 0), read(8, 0))
	mustStep(t, s, 2, api.Did)
	mustStep(t, s, 3, api.Did, api.Waits)
	mustStep(t, s, 1, api.Waits)
	mustBeTold(t, s, 3, api.Txn{Stamp: 3, Next: 1, Wounded: true, Waiting: true})
	mustHaveLocks(t, s, 7, "3W", "1W")
	mustHaveLocks(t, s, 8, "2W", "3S")
	mustStep(t, s, 3, api.Again)
	mustBeTold(t, s, 3, api.Txn{Stamp: 3, Agains: 1})
	mustHaveLocks(t, s, 7, "1W", "")
	mustHaveLocks(t, s, 8, "2W", "")
}

// P6: the operation is done in the next step of the one that waited, not in the step that let the row go.
func TestWhoWaitedDoesItsOperation(t *testing.T) {
	s := open(t, pairs(7, 70)...)
	mustAdmit(t, s, 1, add(0, 0, 5), write(7, 0))
	mustAdmit(t, s, 2, read(7, 1), remove(7))
	mustStep(t, s, 1, api.Did, api.Did)
	mustStep(t, s, 2, api.Waits, api.Waits)
	mustBeTold(t, s, 2, api.Txn{Stamp: 2, Waiting: true})
	mustStep(t, s, 1, api.Committed)
	mustBeTold(t, s, 2, api.Txn{Stamp: 2})
	mustHaveLocks(t, s, 7, "2S", "")
	mustStep(t, s, 2, api.Did)
	mustBeTold(t, s, 2, api.Txn{Stamp: 2, Next: 1, Registers: []int{0, 5, 0, 0}, Reads: []api.Seen{{Key: 7, There: true, Value: 5}}})
	mustStep(t, s, 2, api.Did, api.Committed)
	mustHaveRows(t, s, nil)
}

// One that holds by now what it waited for may have been wounded since: then it begins again.
func TestWhoWaitedIsWounded(t *testing.T) {
	s := open(t)
	mustAdmit(t, s, 1, write(8, 0))
	mustAdmit(t, s, 2, write(7, 0))
	mustAdmit(t, s, 3, write(8, 0), write(7, 0))
	mustStep(t, s, 2, api.Did)
	mustStep(t, s, 3, api.Did, api.Waits)
	mustStep(t, s, 1, api.Waits)
	mustStep(t, s, 2, api.Committed)
	mustHaveLocks(t, s, 7, "3W", "")
	mustBeTold(t, s, 3, api.Txn{Stamp: 3, Next: 1, Wounded: true})
	mustStep(t, s, 3, api.Again)
	mustHaveLocks(t, s, 7, "", "")
	mustHaveLocks(t, s, 8, "1W", "")
	mustHaveRows(t, s, pairs(7, 0))
}

// someRows are Reads of rows, from a key on.
func someRows(key, n int) []api.Op {
	var ops []api.Op
	for i := range n {
		ops = append(ops, read(key+i, 0))
	}
	return ops
}

// crowd is a store in which as many rows as may have locks: 1 holds 0 to 7 in Whole, 2 holds 8 to 15 in Shared.
func crowd(t *testing.T) *tussle.Store {
	t.Helper()
	s := open(t, pairs(1, 10, 99, 990)...)
	var writes []api.Op
	for row := range 8 {
		writes = append(writes, write(row, 3))
	}
	mustAdmit(t, s, 1, writes...)
	mustAdmit(t, s, 2, someRows(8, 8)...)
	mustStep(t, s, 1, slices.Repeat([]int{api.Did}, 8)...)
	mustStep(t, s, 2, slices.Repeat([]int{api.Did}, 8)...)
	return s
}

func TestCrowdedUndoesAndEnds(t *testing.T) {
	for _, op := range []api.Op{read(99, 0), write(99, 0), remove(99), read(16, 0), write(-1, 0), remove(math.MinInt)} {
		s := crowd(t)
		before := s.Rows()
		mustAdmit(t, s, 3, read(15, 1), add(0, 0, 4), op)
		mustStep(t, s, 3, api.Did, api.Did)
		mustHaveLocks(t, s, 15, "2S,3S", "")
		mustStep(t, s, 3, api.Crowded)
		mustBeTold(t, s, 3, api.Txn{Stamp: 3, State: api.Fell})
		mustHaveLocks(t, s, 15, "2S", "")
		mustHaveLocks(t, s, op.A, "", "")
		mustHaveRows(t, s, before)
		mustHaveWon(t, s)
	}
}

// The sixteenth row may still be had; one that has ended lets rows go, so that there is room again.
func TestCrowdedOnlyAboveTheLimit(t *testing.T) {
	s := open(t)
	mustAdmit(t, s, 1, someRows(0, 12)...)
	mustAdmit(t, s, 2, someRows(100, 4)...)
	mustAdmit(t, s, 3, write(200, 0))
	mustAdmit(t, s, 4, write(200, 0))
	mustStep(t, s, 1, slices.Repeat([]int{api.Did}, 12)...)
	mustStep(t, s, 2, api.Did, api.Did, api.Did, api.Did)
	mustStep(t, s, 3, api.Crowded)
	mustStep(t, s, 2, api.Committed)
	mustStep(t, s, 4, api.Did, api.Committed)
}

// Rows are counted, not locks: a row that several hold or wait for is one.
func TestCrowdedCountsRows(t *testing.T) {
	s := open(t)
	for id := 1; id <= 4; id++ {
		mustAdmit(t, s, id, someRows(0, 12)...)
		mustStep(t, s, id, slices.Repeat([]int{api.Did}, 12)...)
	}
	mustAdmit(t, s, 5, write(0, 0))
	mustAdmit(t, s, 6, write(1, 0))
	mustStep(t, s, 5, api.Waits)
	mustStep(t, s, 6, api.Waits)
	mustAdmit(t, s, 7, someRows(20, 5)...)
	mustStep(t, s, 7, api.Did, api.Did, api.Did, api.Did, api.Crowded)
}

// A row with locks may be wanted by more, however many rows there are; so may one that is held already.
func TestNotCrowdedAtARowWithLocks(t *testing.T) {
	s := open(t)
	mustAdmit(t, s, 1, write(0, 0), write(1, 0), write(2, 0), write(3, 0), write(4, 0), write(5, 0), write(6, 0), write(7, 0), read(7, 0), write(7, 0))
	mustAdmit(t, s, 2, append(someRows(8, 8), write(15, 0))...)
	mustAdmit(t, s, 3, read(8, 0), read(0, 0))
	mustAdmit(t, s, 4, write(7, 0))
	mustStep(t, s, 1, slices.Repeat([]int{api.Did}, 10)...)
	mustStep(t, s, 2, slices.Repeat([]int{api.Did}, 9)...)
	mustStep(t, s, 3, api.Did, api.Waits)
	mustStep(t, s, 4, api.Waits)
	mustHaveLocks(t, s, 15, "2W", "")
	mustHaveLocks(t, s, 8, "2S,3S", "")
	mustHaveLocks(t, s, 0, "1W", "3S")
	mustHaveLocks(t, s, 7, "1W", "4W")
}
