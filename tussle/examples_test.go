package tussle_test

import (
	"testing"

	"tussle/api"
)

func TestExample1(t *testing.T) {
	s := open(t, pairs(1, 10, 2, 20)...)
	mustAdmit(t, s, 1, read(1, 0), add(0, 0, 5), write(2, 0))
	mustBeNew(t, s, 1, 1)
	mustStep(t, s, 1, api.Did, api.Did, api.Did, api.Committed)
	mustHaveRows(t, s, pairs(1, 10, 2, 25))
}

func TestExample2(t *testing.T) {
	s := open(t)
	mustAdmit(t, s, 1, write(7, 0), write(8, 0))
	mustAdmit(t, s, 2, write(8, 0))
	mustStep(t, s, 2, api.Did)
	mustStep(t, s, 1, api.Did, api.Waits)
	mustBeWounded(t, s, 2)
	mustStep(t, s, 1, api.Waits)
	mustHaveRows(t, s, pairs(7, 0, 8, 0))
	mustStep(t, s, 2, api.Again)
	mustHaveRows(t, s, pairs(7, 0))
	mustHaveLocks(t, s, 8, "1W", "")
	mustStep(t, s, 2, api.Waits)
	mustBeWounded(t, s)
	mustStep(t, s, 1, api.Did, api.Committed)
	mustHaveLocks(t, s, 8, "2W", "")
	mustStep(t, s, 2, api.Did)
}

func TestExample3(t *testing.T) {
	s := open(t)
	mustAdmit(t, s, 1, write(7, 0))
	mustAdmit(t, s, 2, read(7, 0))
	mustStep(t, s, 1, api.Did)
	mustStep(t, s, 2, api.Waits)
	mustHaveLocks(t, s, 7, "1W", "2S")
	mustBeWounded(t, s)
}

func TestExample4(t *testing.T) {
	s := open(t)
	mustAdmit(t, s, 1, read(7, 0), write(7, 0))
	mustAdmit(t, s, 2, read(7, 0), write(7, 0))
	mustStep(t, s, 1, api.Did)
	mustStep(t, s, 2, api.Did)
	mustHaveLocks(t, s, 7, "1S,2S", "")
	mustStep(t, s, 2, api.Waits)
	mustBeWounded(t, s)
	mustStep(t, s, 1, api.Waits)
	mustBeWounded(t, s, 2)
	mustHaveLocks(t, s, 7, "1S,2S", "2W,1W")
	mustStep(t, s, 2, api.Again)
	mustHaveLocks(t, s, 7, "1W", "")
}

func TestExample5(t *testing.T) {
	s := open(t)
	mustAdmit(t, s, 1, read(7, 0), stop(0))
	mustStep(t, s, 1, api.Did, api.Stopped)
}
