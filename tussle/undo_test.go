package tussle_test

import (
	"testing"

	"tussle/api"
)

// One row changed several times: it is as it was ahead of the first change, so the latest is undone first.
func TestUndoingOneRowChangedOften(t *testing.T) {
	for _, rows := range [][]api.Row{pairs(7, 70), nil} {
		for _, ops := range [][]api.Op{
			{write(7, 1)},
			{remove(7)},
			{write(7, 1), write(7, 2)},
			{write(7, 1), remove(7)},
			{remove(7), write(7, 1)},
			{remove(7), remove(7)},
			{write(7, 1), remove(7), write(7, 2), write(7, 1), remove(7)},
			{remove(7), write(7, 1), remove(7), write(7, 2)},
		} {
			s := open(t, rows...)
			all := append([]api.Op{add(1, 0, 1), add(2, 0, 2)}, ops...)
			mustAdmit(t, s, 1, append(all, stop(0))...)
			for range all {
				mustStep(t, s, 1, api.Did)
			}
			mustStep(t, s, 1, api.Stopped)
			mustHaveRows(t, s, rows)
		}
	}
}

func TestUndoingSeveralRows(t *testing.T) {
	rows := pairs(-3, 30, 0, 0, 5, 50)
	s := open(t, rows...)
	mustAdmit(t, s, 1, add(1, 0, 9), write(5, 1), write(-9, 1), remove(-3), write(8, 1), remove(0), write(0, 1), remove(8), stop(0))
	for range 8 {
		mustStep(t, s, 1, api.Did)
	}
	mustHaveRows(t, s, pairs(-9, 9, 0, 9, 5, 9))
	mustStep(t, s, 1, api.Stopped)
	mustHaveRows(t, s, rows)
}

// What others did to other rows in the meantime stays.
func TestUndoingLeavesTheOthersAlone(t *testing.T) {
	s := open(t, pairs(1, 10, 2, 20, 3, 30)...)
	mustAdmit(t, s, 1, write(1, 0), remove(2), stop(0))
	mustAdmit(t, s, 2, write(3, 0), write(4, 0))
	mustAdmit(t, s, 3, write(5, 0))
	mustStep(t, s, 1, api.Did)
	mustStep(t, s, 2, api.Did, api.Did, api.Committed)
	mustStep(t, s, 3, api.Did)
	mustStep(t, s, 1, api.Did, api.Stopped)
	mustHaveRows(t, s, pairs(1, 10, 2, 20, 3, 0, 4, 0, 5, 0))
	mustHaveLocks(t, s, 5, "3W", "")
}

// What an earlier attempt did is undone once: not again with a later one.
func TestUndoingIsOfTheAttempt(t *testing.T) {
	s := open(t, pairs(7, 70)...)
	mustAdmit(t, s, 1, add(0, 0, 5), write(7, 0))
	mustAdmit(t, s, 2, write(7, 1), stop(1))
	mustStep(t, s, 2, api.Did)
	mustHaveRows(t, s, pairs(7, 0))
	mustStep(t, s, 1, api.Did, api.Waits)
	mustStep(t, s, 2, api.Again)
	mustHaveRows(t, s, pairs(7, 70))
	mustStep(t, s, 1, api.Did, api.Committed)
	mustHaveRows(t, s, pairs(7, 5))
	mustStep(t, s, 2, api.Did)
	mustHaveRows(t, s, pairs(7, 0))
	mustStep(t, s, 2, api.Stopped)
	mustHaveRows(t, s, pairs(7, 5))
	mustBeTold(t, s, 2, api.Txn{Stamp: 2, State: api.Gave, Agains: 1})
}

// Whoever gets a row from one that is undone finds it as it was ahead of that one.
func TestAReadBehindUndoing(t *testing.T) {
	for _, rows := range [][]api.Row{pairs(7, 70), nil} {
		s := open(t, rows...)
		mustAdmit(t, s, 1, add(1, 1, 3), write(7, 1), stop(0))
		mustAdmit(t, s, 2, read(7, 0))
		mustStep(t, s, 1, api.Did, api.Did)
		mustStep(t, s, 2, api.Waits)
		mustStep(t, s, 1, api.Stopped)
		mustHaveLocks(t, s, 7, "2S", "")
		mustStep(t, s, 2, api.Did)
		want := api.Seen{Key: 7}
		if len(rows) > 0 {
			want = api.Seen{Key: 7, There: true, Value: 70}
		}
		mustBeTold(t, s, 2, api.Txn{Stamp: 2, Next: 1, Registers: []int{want.Value, 0, 0, 0}, Reads: []api.Seen{want}})
	}
}
