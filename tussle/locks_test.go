package tussle_test

import (
	"slices"
	"testing"

	"tussle/api"
	"tussle/tussle"
)

// wanting is a store in which the elder, 1, and the younger, 2, want the row 7 each by one operation.
func wanting(t *testing.T, elder, younger api.Op) *tussle.Store {
	t.Helper()
	s := open(t, pairs(7, 70)...)
	mustAdmit(t, s, 1, elder)
	mustAdmit(t, s, 2, younger)
	return s
}

func TestModesConflictIfOneIsWhole(t *testing.T) {
	ops := []api.Op{read(7, 0), write(7, 0), remove(7)}
	for _, elder := range ops {
		for _, younger := range ops {
			shared := elder.Kind == api.Read && younger.Kind == api.Read

			s := wanting(t, elder, younger)
			mustStep(t, s, 1, api.Did)
			if shared {
				mustStep(t, s, 2, api.Did)
				mustHaveLocks(t, s, 7, "1S,2S", "")
			} else {
				mustStep(t, s, 2, api.Waits)
				mustWait(t, s, 2)
			}
			mustBeWounded(t, s)

			s = wanting(t, elder, younger)
			mustStep(t, s, 2, api.Did)
			if shared {
				mustStep(t, s, 1, api.Did)
				mustBeWounded(t, s)
			} else {
				mustStep(t, s, 1, api.Waits)
				mustWait(t, s, 1)
				mustBeWounded(t, s, 2)
			}
		}
	}
}

// Whole is as good as Shared: one that holds a row in Whole keeps it so when it reads.
func TestWholeIsAsGoodAsShared(t *testing.T) {
	s := open(t, pairs(7, 70)...)
	mustAdmit(t, s, 1, write(7, 0))
	mustAdmit(t, s, 2, remove(7), read(7, 0), write(7, 0), read(7, 0))
	mustStep(t, s, 2, api.Did)
	mustStep(t, s, 2, api.Did, api.Did, api.Did)
	mustHaveLocks(t, s, 7, "2W", "")
	mustStep(t, s, 1, api.Waits)
	mustHaveLocks(t, s, 7, "2W", "1W")
}

// What is held in a mode that is as good is not asked for anew, though others wait for the row.
func TestWhatIsHeldIsNotAskedFor(t *testing.T) {
	s := open(t, pairs(7, 70)...)
	mustAdmit(t, s, 1, read(7, 0), read(7, 1))
	mustAdmit(t, s, 2, write(7, 0), read(7, 0), write(7, 1))
	mustStep(t, s, 1, api.Did)
	mustStep(t, s, 2, api.Waits)
	mustStep(t, s, 1, api.Did)
	mustBeWounded(t, s)
	mustHaveLocks(t, s, 7, "1S", "2W")
	mustStep(t, s, 1, api.Committed)
	mustAdmit(t, s, 3, read(7, 0))
	mustStep(t, s, 3, api.Waits)
	mustStep(t, s, 2, api.Did, api.Did, api.Did, api.Committed)
	mustHaveLocks(t, s, 7, "3S", "")
}

func TestSharedBecomesWhole(t *testing.T) {
	s := open(t, pairs(7, 70)...)
	mustAdmit(t, s, 1, read(7, 0), remove(7))
	mustStep(t, s, 1, api.Did)
	mustHaveLocks(t, s, 7, "1S", "")
	mustStep(t, s, 1, api.Did)
	mustHaveLocks(t, s, 7, "1W", "")
}

// The younger of two that share a row waits for the elder one, and has the row in Whole when that one has ended.
func TestSharedBecomesWholeByWaiting(t *testing.T) {
	s := open(t, pairs(7, 70)...)
	mustAdmit(t, s, 1, read(7, 0))
	mustAdmit(t, s, 2, read(7, 0), write(7, 1))
	mustAdmit(t, s, 3, read(7, 0))
	mustStep(t, s, 1, api.Did)
	mustStep(t, s, 2, api.Did, api.Waits)
	mustBeWounded(t, s)
	mustHaveLocks(t, s, 7, "1S,2S", "2W")
	mustStep(t, s, 3, api.Waits)
	mustStep(t, s, 1, api.Committed)
	mustHaveLocks(t, s, 7, "2W", "3S")
	mustStep(t, s, 2, api.Did, api.Committed)
	mustHaveLocks(t, s, 7, "3S", "")
}

// The elder of three that share a row wounds the younger ones, and only these.
func TestSharedBecomesWholeByWounds(t *testing.T) {
	s := open(t, pairs(7, 70)...)
	for id := 1; id <= 4; id++ {
		mustAdmit(t, s, id, read(7, 0), write(7, 1))
		mustStep(t, s, id, api.Did)
	}
	mustStep(t, s, 2, api.Waits)
	mustBeWounded(t, s, 3, 4)
	mustHaveLocks(t, s, 7, "1S,2S,3S,4S", "2W")
	mustStep(t, s, 4, api.Again)
	mustStep(t, s, 3, api.Again)
	mustHaveLocks(t, s, 7, "1S,2S", "2W")
	mustStep(t, s, 1, api.Waits)
	mustBeWounded(t, s, 2)
	mustHaveLocks(t, s, 7, "1S,2S", "2W,1W")
	mustStep(t, s, 2, api.Again)
	mustHaveLocks(t, s, 7, "1W", "")
	mustStep(t, s, 1, api.Did, api.Committed)
}

// A Read that no holder stands against waits all the same, if others wait.
func TestWhoComesLaterWaitsBehind(t *testing.T) {
	s := open(t)
	mustAdmit(t, s, 1, read(7, 0))
	mustAdmit(t, s, 2, write(7, 0))
	mustAdmit(t, s, 3, read(7, 0))
	mustAdmit(t, s, 4, read(7, 0))
	mustStep(t, s, 1, api.Did)
	mustStep(t, s, 2, api.Waits)
	mustStep(t, s, 4, api.Waits)
	mustStep(t, s, 3, api.Waits)
	mustHaveLocks(t, s, 7, "1S", "2W,4S,3S")
	mustBeWounded(t, s)
	mustStep(t, s, 1, api.Committed)
	mustHaveLocks(t, s, 7, "2W", "4S,3S")
	mustWait(t, s, 3, 4)
	mustStep(t, s, 2, api.Did, api.Committed)
	mustHaveLocks(t, s, 7, "3S,4S", "")
	mustWait(t, s)
}

// Whom one wounds that comes to a queue: each younger one that conflicts, whether it holds the row or waits for it; no elder one, and none that wants to read as well.
func TestWhomAWaiterWounds(t *testing.T) {
	queued := func(last api.Op) *tussle.Store {
		s := open(t)
		mustAdmit(t, s, 1, read(7, 0))
		mustAdmit(t, s, 2, write(7, 0))
		mustAdmit(t, s, 3, last)
		mustAdmit(t, s, 4, read(7, 0))
		mustAdmit(t, s, 5, read(7, 0))
		mustAdmit(t, s, 6, write(7, 0))
		mustStep(t, s, 1, api.Did)
		mustStep(t, s, 5, api.Did)
		mustStep(t, s, 6, api.Waits)
		mustStep(t, s, 4, api.Waits)
		mustBeWounded(t, s, 6)
		mustStep(t, s, 6, api.Again)
		mustHaveLocks(t, s, 7, "1S,4S,5S", "")
		mustStep(t, s, 2, api.Waits)
		mustBeWounded(t, s, 4, 5)
		mustStep(t, s, 4, api.Again)
		mustHaveLocks(t, s, 7, "1S,5S", "2W")
		mustStep(t, s, 4, api.Waits)
		mustStep(t, s, 6, api.Waits)
		mustHaveLocks(t, s, 7, "1S,5S", "2W,4S,6W")
		mustBeWounded(t, s, 5)
		mustStep(t, s, 3, api.Waits)
		return s
	}
	s := queued(read(7, 0))
	mustBeWounded(t, s, 5, 6)
	mustHaveLocks(t, s, 7, "1S,5S", "2W,4S,6W,3S")
	s = queued(remove(7))
	mustBeWounded(t, s, 4, 5, 6)
	mustHaveLocks(t, s, 7, "1S,5S", "2W,4S,6W,3W")
}

// A younger one that comes later, and waits behind, is not wounded; nor is one at another row.
func TestWhomAWaiterDoesNotWound(t *testing.T) {
	s := open(t)
	mustAdmit(t, s, 1, write(7, 0))
	mustAdmit(t, s, 2, write(7, 0))
	mustAdmit(t, s, 3, write(7, 0))
	mustAdmit(t, s, 4, write(8, 0), write(7, 0))
	mustStep(t, s, 4, api.Did)
	mustStep(t, s, 1, api.Did)
	mustStep(t, s, 2, api.Waits)
	mustStep(t, s, 3, api.Waits)
	mustStep(t, s, 2, api.Waits)
	mustStep(t, s, 4, api.Waits)
	mustStep(t, s, 3, api.Waits)
	mustBeWounded(t, s)
	mustHaveLocks(t, s, 7, "1W", "2W,3W,4W")
}

// What a wounded one holds and waits for stays so till its next step, whatever the others do.
func TestAWoundedOneKeepsItsRows(t *testing.T) {
	s := open(t, pairs(7, 70)...)
	mustAdmit(t, s, 1, write(7, 0))
	mustAdmit(t, s, 2, write(7, 1))
	mustAdmit(t, s, 3, add(2, 2, 9), write(7, 2))
	mustStep(t, s, 3, api.Did, api.Did)
	mustStep(t, s, 2, api.Waits)
	mustStep(t, s, 1, api.Waits)
	mustBeWounded(t, s, 2, 3)
	for range 3 {
		mustStep(t, s, 1, api.Waits)
	}
	mustHaveLocks(t, s, 7, "3W", "2W,1W")
	mustHaveRows(t, s, pairs(7, 9))
	mustStep(t, s, 2, api.Again)
	mustHaveLocks(t, s, 7, "3W", "1W")
	mustHaveRows(t, s, pairs(7, 9))
	mustStep(t, s, 3, api.Again)
	mustHaveLocks(t, s, 7, "1W", "")
	mustHaveRows(t, s, pairs(7, 70))
}

// Two wounds are as one: it begins again once.
func TestWoundedTwice(t *testing.T) {
	s := open(t)
	mustAdmit(t, s, 1, write(7, 0))
	mustAdmit(t, s, 2, write(8, 0))
	mustAdmit(t, s, 3, write(7, 0), write(8, 0))
	mustStep(t, s, 3, api.Did, api.Did)
	mustStep(t, s, 2, api.Waits)
	mustStep(t, s, 1, api.Waits)
	mustBeWounded(t, s, 3)
	mustStep(t, s, 3, api.Again, api.Waits)
	mustBeTold(t, s, 3, api.Txn{Stamp: 3, Agains: 1, Waiting: true})
	mustStep(t, s, 1, api.Did, api.Committed)
	mustStep(t, s, 2, api.Did, api.Committed)
	mustStep(t, s, 3, api.Did, api.Did, api.Committed)
}

// Those at the head of the queue get the row as far as they fit: the Reads up to the first Write.
func TestTheHeadOfTheQueueGetsTheRow(t *testing.T) {
	s := open(t)
	mustAdmit(t, s, 1, write(7, 0))
	for id, op := range []api.Op{read(7, 0), read(7, 0), write(7, 0), read(7, 0), write(7, 0)} {
		mustAdmit(t, s, id+2, op)
	}
	mustStep(t, s, 1, api.Did)
	for _, id := range []int{2, 3, 4, 5, 6} {
		mustStep(t, s, id, api.Waits)
	}
	mustStep(t, s, 1, api.Committed)
	mustHaveLocks(t, s, 7, "2S,3S", "4W,5S,6W")
	mustWait(t, s, 4, 5, 6)
	mustStep(t, s, 3, api.Did, api.Committed)
	mustHaveLocks(t, s, 7, "2S", "4W,5S,6W")
	mustStep(t, s, 2, api.Did, api.Committed)
	mustHaveLocks(t, s, 7, "4W", "5S,6W")
	mustStep(t, s, 4, api.Did, api.Committed)
	mustHaveLocks(t, s, 7, "5S", "6W")
	mustStep(t, s, 5, api.Did, api.Committed)
	mustHaveLocks(t, s, 7, "6W", "")
}

// One that leaves a queue without having held the row makes way for those behind it.
func TestWhoLeavesAQueueMakesWay(t *testing.T) {
	s := open(t)
	mustAdmit(t, s, 1, write(9, 0))
	mustAdmit(t, s, 2, read(7, 0), write(8, 0))
	mustAdmit(t, s, 3, write(9, 0), write(7, 0))
	mustAdmit(t, s, 4, read(7, 0))
	mustAdmit(t, s, 5, read(7, 0))
	mustAdmit(t, s, 6, write(7, 0))
	mustStep(t, s, 2, api.Did)
	mustStep(t, s, 3, api.Did, api.Waits)
	for _, id := range []int{4, 5, 6} {
		mustStep(t, s, id, api.Waits)
	}
	mustStep(t, s, 1, api.Waits)
	mustBeWounded(t, s, 3)
	mustHaveLocks(t, s, 7, "2S", "3W,4S,5S,6W")
	mustStep(t, s, 3, api.Again)
	mustHaveLocks(t, s, 7, "2S,4S,5S", "6W")
	mustHaveLocks(t, s, 9, "1W", "")
	mustWait(t, s, 6)
}

// One in the midst of a queue leaves it, and the order of the others stays.
func TestWhoLeavesTheMidstOfAQueue(t *testing.T) {
	s := open(t)
	mustAdmit(t, s, 1, write(9, 0))
	mustAdmit(t, s, 2, write(7, 0))
	mustAdmit(t, s, 3, write(7, 0))
	mustAdmit(t, s, 4, write(9, 0), write(7, 0))
	mustAdmit(t, s, 5, write(7, 0))
	mustAdmit(t, s, 6, read(7, 0))
	mustStep(t, s, 2, api.Did)
	mustStep(t, s, 4, api.Did)
	for _, id := range []int{3, 4, 5, 6} {
		mustStep(t, s, id, api.Waits)
	}
	mustStep(t, s, 1, api.Waits)
	mustStep(t, s, 4, api.Again)
	mustHaveLocks(t, s, 7, "2W", "3W,5W,6S")
	mustStep(t, s, 4, api.Waits)
	mustHaveLocks(t, s, 9, "1W", "4W")
}

// A row that is let go goes to its own queue, and each of several rows to its first one.
func TestEachRowGoesToItsOwnQueue(t *testing.T) {
	s := open(t)
	mustAdmit(t, s, 1, write(3, 0), write(-2, 0), read(9, 0))
	mustAdmit(t, s, 2, write(3, 0))
	mustAdmit(t, s, 3, read(-2, 0))
	mustAdmit(t, s, 4, write(9, 0))
	mustAdmit(t, s, 5, write(-2, 0))
	mustStep(t, s, 1, api.Did, api.Did, api.Did)
	for id := 2; id <= 5; id++ {
		mustStep(t, s, id, api.Waits)
	}
	mustStep(t, s, 1, api.Committed)
	mustHaveLocks(t, s, 3, "2W", "")
	mustHaveLocks(t, s, -2, "3S", "5W")
	mustHaveLocks(t, s, 9, "4W", "")
	mustWait(t, s, 5)
}

// Who is the elder one hangs on the stamps alone, however far the clock has gone on; beginning again makes none younger.
func TestAStampStays(t *testing.T) {
	s := open(t)
	mustAdmit(t, s, 1, write(7, 0))
	mustTick(t, s, 100, api.OK)
	mustAdmit(t, s, 2, write(8, 0), write(7, 0))
	mustTick(t, s, 100, api.OK)
	mustStep(t, s, 2, api.Did, api.Did)
	mustStep(t, s, 1, api.Waits)
	mustStep(t, s, 2, api.Again)
	mustAdmit(t, s, 3, write(8, 0))
	mustStep(t, s, 3, api.Did)
	mustStep(t, s, 2, api.Waits)
	mustBeWounded(t, s, 3)
	mustBeTold(t, s, 2, api.Txn{Stamp: 102, Agains: 1, Waiting: true})
	mustBeTold(t, s, 3, api.Txn{Stamp: 203, Next: 1, Wounded: true})
}

func TestHoldersAreToldByTheirNumbers(t *testing.T) {
	s := open(t)
	for id := 1; id <= api.MaxTxns; id++ {
		mustAdmit(t, s, id, read(7, 0))
	}
	for _, id := range []int{9, 3, 12, 1, 7, 2, 11, 4, 10, 5, 8, 6} {
		mustStep(t, s, id, api.Did)
	}
	for range 20 {
		mustHaveLocks(t, s, 7, "1S,2S,3S,4S,5S,6S,7S,8S,9S,10S,11S,12S", "")
	}
	for _, row := range slices.Concat(edges, []int{6, 8, -7}) {
		mustHaveLocks(t, s, row, "", "")
	}
}

func TestLocksAreTheCallers(t *testing.T) {
	s := open(t)
	mustAdmit(t, s, 1, read(7, 0))
	mustAdmit(t, s, 2, read(7, 0))
	mustAdmit(t, s, 3, write(7, 0))
	mustAdmit(t, s, 4, write(7, 0))
	mustAdmit(t, s, 5, read(7, 0))
	mustStep(t, s, 1, api.Did)
	mustStep(t, s, 2, api.Did)
	for _, id := range []int{3, 4, 5} {
		mustStep(t, s, id, api.Waits)
	}
	holders, waiters := s.Locks(7)
	others, queue := s.Locks(7)
	scribble(holders, api.Lock{Txn: 99, Mode: 99})
	if got := written(waiters); got != "3W,4W,5S" {
		t.Errorf("holders and waiters share room: %s", got)
	}
	scribble(waiters, api.Lock{Txn: 99, Mode: 99})
	if written(others) != "1S,2S" || written(queue) != "3W,4W,5S" {
		t.Errorf("two answers share room: %v, %v", others, queue)
	}
	mustHaveLocks(t, s, 7, "1S,2S", "3W,4W,5S")
	_, queue = s.Locks(7)
	queue = append(queue, api.Lock{Txn: 98, Mode: 98})
	mustAdmit(t, s, 6, read(7, 0))
	mustStep(t, s, 6, api.Waits)
	if queue[3].Txn != 98 {
		t.Errorf("written behind an answer: %v", queue)
	}
	mustHaveLocks(t, s, 7, "1S,2S", "3W,4W,5S,6S")
}

func TestWinsAreTheCallers(t *testing.T) {
	s := open(t)
	for id := 1; id <= 5; id++ {
		mustAdmit(t, s, id)
	}
	for id := 1; id <= 3; id++ {
		mustStep(t, s, id, api.Committed)
	}
	first, second := s.Wins(), s.Wins()
	scribble(first, 99)
	if !slices.Equal(second, []int{1, 2, 3}) {
		t.Errorf("two answers share room: %v", second)
	}
	mustHaveWon(t, s, 1, 2, 3)
	second = append(second, 98)
	mustStep(t, s, 4, api.Committed)
	if second[3] != 98 {
		t.Errorf("written behind an answer: %v", second)
	}
	mustHaveWon(t, s, 1, 2, 3, 4)
}

func TestReadsAreTheCallers(t *testing.T) {
	s := open(t, pairs(1, 10, 2, 20)...)
	mustAdmit(t, s, 1, read(1, 0), read(2, 1), read(3, 2), read(1, 3))
	mustStep(t, s, 1, api.Did, api.Did, api.Did)
	x, _ := s.Txn(1)
	scribble(x.Registers, 99)
	scribble(x.Reads, api.Seen{Key: 99, There: true, Value: 99})
	want := api.Txn{Stamp: 1, Next: 3, Registers: []int{10, 20, 0, 0}, Reads: []api.Seen{{Key: 1, There: true, Value: 10}, {Key: 2, There: true, Value: 20}, {Key: 3}}}
	mustBeTold(t, s, 1, want)
	y, _ := s.Txn(1)
	y.Reads = append(y.Reads, api.Seen{Key: 98})
	mustStep(t, s, 1, api.Did)
	if y.Reads[3].Key != 98 {
		t.Errorf("written behind an answer: %v", y.Reads)
	}
}

func TestLocksOfTwoStores(t *testing.T) {
	first, second := open(t), open(t)
	for _, s := range []*tussle.Store{first, second} {
		mustAdmit(t, s, 1, write(7, 0))
		mustAdmit(t, s, 2, write(7, 0))
	}
	mustStep(t, first, 2, api.Did)
	mustStep(t, first, 1, api.Waits)
	mustHaveLocks(t, second, 7, "", "")
	mustHaveRows(t, second, nil)
	mustBeWounded(t, second)
	mustStep(t, second, 1, api.Did, api.Committed)
	mustHaveWon(t, first)
	mustHaveLocks(t, first, 7, "2W", "1W")
}
