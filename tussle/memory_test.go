package tussle_test

import (
	"slices"
	"testing"

	"tussle/api"
	"tussle/tussle"
)

// spare lays a list ahead of room that is filled with a mark, and gives the list and all of the room.
func spare[T any](list []T, mark T) (handed, room []T) {
	room = slices.Concat(list, []T{mark, mark, mark})
	return room[:len(list)], room
}

// scribble writes into a list and into all the room behind it.
func scribble[T any](list []T, mark T) {
	list = list[:cap(list)]
	for i := range list {
		list[i] = mark
	}
}

func TestNewLeavesAloneWhatIsHandedIn(t *testing.T) {
	mark := api.Row{Key: 77, Value: 78}
	for _, rows := range [][]api.Row{pairs(1, 10, 2, 20, 5, 50), pairs(3, 0, 2, 0), {}} {
		handed, room := spare(rows, mark)
		before := slices.Clone(room)
		s, e := tussle.New(handed)
		if !slices.Equal(room, before) {
			t.Errorf("New wrote into its list: %v, was %v", room, before)
		}
		if e != api.OK {
			continue
		}
		scribble(handed, api.Row{Key: -9, Value: -9})
		mustHaveRows(t, s, rows)
	}
}

func TestAdmitLeavesAloneWhatIsHandedIn(t *testing.T) {
	mark := add(3, 3, 77)
	s := open(t)
	for _, ops := range [][]api.Op{{read(1, 0), write(2, 0)}, {read(1, 9)}, make([]api.Op, 13), {}} {
		handed, room := spare(ops, mark)
		before := slices.Clone(room)
		s.Admit(handed)
		if !slices.Equal(room, before) {
			t.Errorf("Admit wrote into its list: %v, was %v", room, before)
		}
	}
}

func TestRowsAreTheCallers(t *testing.T) {
	want := pairs(1, 10, 2, 20, 5, 50)
	s := open(t, want...)
	first, second := s.Rows(), s.Rows()
	scribble(first, api.Row{Key: 99, Value: 99})
	if !slices.Equal(second, want) {
		t.Errorf("two answers share room: %v", second)
	}
	mustHaveRows(t, s, want)
	third := s.Rows()
	scribble(second, api.Row{Key: -1, Value: -1})
	if !slices.Equal(third, want) {
		t.Errorf("two answers share room: %v", third)
	}
	mustHaveRows(t, s, want)
}

func TestRegistersAreTheCallers(t *testing.T) {
	s := open(t)
	mustAdmit(t, s, 1, read(1, 0))
	mustAdmit(t, s, 2, read(1, 0))
	x, _ := s.Txn(1)
	y, _ := s.Txn(1)
	scribble(x.Registers, 99)
	scribble(x.Reads, api.Seen{Key: 99, There: true, Value: 99})
	if !slices.Equal(y.Registers, []int{0, 0, 0, 0}) {
		t.Errorf("two answers share room: %v", y.Registers)
	}
	mustBeNew(t, s, 1, 1)
	mustBeNew(t, s, 2, 2)
}

func TestStoresDoNotTouchOneAnother(t *testing.T) {
	rows := pairs(1, 10, 2, 20)
	first, second := open(t, rows...), open(t, rows...)
	mustTick(t, first, 40, api.OK)
	mustAdmit(t, first, 1)
	mustAdmit(t, first, 2)
	mustBeUnknown(t, second, 1)
	mustAdmit(t, second, 1)
	mustBeNew(t, second, 1, 1)
	mustBeUnknown(t, second, 2)
	mustBeNew(t, first, 1, 41)
	mustBeNew(t, first, 2, 42)
	scribble(first.Rows(), api.Row{})
	mustHaveRows(t, second, rows)
	for id := 3; id <= api.MaxTxns; id++ {
		mustAdmit(t, first, id)
	}
	mustRefuse(t, first, api.ErrFull)
	mustTick(t, first, api.MaxClock-52, api.OK)
	mustAdmit(t, second, 2)
	mustBeNew(t, second, 2, 2)
}
