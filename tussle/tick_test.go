package tussle_test

import (
	"math"
	"testing"

	"tussle/api"
)

func TestTickMovesTheClockOn(t *testing.T) {
	s := open(t)
	mustAdmit(t, s, 1)
	mustTick(t, s, 0, api.OK)
	mustAdmit(t, s, 2)
	mustTick(t, s, 5, api.OK)
	mustTick(t, s, 1, api.OK)
	mustAdmit(t, s, 3)
	mustTick(t, s, 1<<30, api.OK)
	mustAdmit(t, s, 4)
	for id, stamp := range map[int]int{1: 1, 2: 2, 3: 9, 4: 10 + 1<<30} {
		mustBeNew(t, s, id, stamp)
	}
}

func TestTickRefuses(t *testing.T) {
	s := open(t)
	for _, n := range []int{-1, -2, -api.MaxClock, math.MinInt, math.MinInt + 1, api.MaxClock + 1, math.MaxInt - 1, math.MaxInt} {
		mustTick(t, s, n, api.ErrClock)
	}
	mustTick(t, s, 7, api.OK)
	for _, n := range []int{-1, -7, -8, math.MinInt, api.MaxClock - 6, api.MaxClock, math.MaxInt - 7, math.MaxInt - 6, math.MaxInt} {
		mustTick(t, s, n, api.ErrClock)
	}
	mustAdmit(t, s, 1)
	mustBeNew(t, s, 1, 8)
}

func TestTickAtTheEndOfTheClock(t *testing.T) {
	s := open(t)
	mustTick(t, s, api.MaxClock-1, api.OK)
	mustTick(t, s, 2, api.ErrClock)
	mustTick(t, s, math.MaxInt, api.ErrClock)
	mustTick(t, s, 0, api.OK)
	mustTick(t, s, 1, api.OK)
	for _, n := range []int{1, 2, -1, api.MaxClock, math.MaxInt, math.MinInt} {
		mustTick(t, s, n, api.ErrClock)
	}
	mustTick(t, s, 0, api.OK)
	mustRefuse(t, s, api.ErrClock)
}

func TestTickOfTheWholeClock(t *testing.T) {
	s := open(t)
	mustTick(t, s, api.MaxClock, api.OK)
	mustTick(t, s, 1, api.ErrClock)
	mustRefuse(t, s, api.ErrClock)
}
