package tussle_test

import (
	"math"
	"testing"

	"tussle/api"
	"tussle/tussle"
)

func TestNewRefusesKeysThatDoNotRise(t *testing.T) {
	for _, rows := range [][]api.Row{
		pairs(1, 10, 1, 10),
		pairs(1, 10, 1, 20),
		pairs(2, 0, 1, 0),
		pairs(0, 0, -1, 0),
		pairs(1, 0, 2, 0, 2, 0),
		pairs(1, 0, 3, 0, 2, 0),
		pairs(2, 0, 1, 0, 3, 0),
		pairs(math.MaxInt, 0, math.MinInt, 0),
		pairs(math.MinInt, 0, math.MinInt, 0),
		pairs(math.MaxInt, 0, math.MaxInt, 0),
		pairs(math.MinInt, 0, 0, 0, math.MaxInt, 0, math.MaxInt, 0),
	} {
		if s, e := tussle.New(rows); s != nil || e != api.ErrOrder {
			t.Errorf("New(%v) = %v, %d, want nil, ErrOrder", rows, s, e)
		}
	}
}

func TestNewTakesKeysThatRise(t *testing.T) {
	for _, rows := range [][]api.Row{
		nil,
		{},
		pairs(0, 0),
		pairs(1, 10, 2, 20),
		pairs(-3, 9, -2, 9, 7, 8, 1000, -8),
		pairs(math.MinInt, math.MaxInt),
		pairs(math.MinInt, math.MaxInt, math.MaxInt, math.MinInt),
		pairs(math.MinInt, 1, math.MinInt+1, 2, -1, 3, 0, 4, 1, 5, math.MaxInt-1, 6, math.MaxInt, 7),
	} {
		mustHaveRows(t, open(t, rows...), rows)
	}
}

// The limit MaxRows is one of rows with locks, not of rows.
func TestNewTakesManyRows(t *testing.T) {
	var rows []api.Row
	for key := range 1000 {
		rows = append(rows, api.Row{Key: 3*key - 1500, Value: -key})
	}
	mustHaveRows(t, open(t, rows...), rows)
}

func TestNewStoreHasNoTransactionAndItsClockAtZero(t *testing.T) {
	s := open(t, pairs(1, 10, 2, 20)...)
	for _, id := range edges {
		mustBeUnknown(t, s, id)
	}
	if wins := s.Wins(); len(wins) != 0 {
		t.Errorf("Wins() = %v", wins)
	}
	for _, key := range edges {
		if holders, waiters := s.Locks(key); len(holders) != 0 || len(waiters) != 0 {
			t.Errorf("Locks(%d) = %v, %v", key, holders, waiters)
		}
	}
	mustTick(t, s, api.MaxClock, api.OK)
	z := open(t, pairs(1, 10, 2, 20)...)
	mustAdmit(t, z, 1)
	mustBeNew(t, z, 1, 1)
}

func TestRowsAreTheSameEachTime(t *testing.T) {
	want := pairs(-5, 1, -4, 2, -3, 3, 0, 4, 10, 5, 11, 6, 200, 7, 3000, 8)
	s := open(t, want...)
	for range 50 {
		mustHaveRows(t, s, want)
	}
	mustTick(t, s, 5, api.OK)
	mustAdmit(t, s, 1, write(0, 0), remove(10))
	mustHaveRows(t, s, want)
}
