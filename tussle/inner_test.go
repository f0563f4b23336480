package tussle

import (
	"maps"
	"math"
	"reflect"
	"slices"
	"testing"

	"tussle/api"
)

// kept is a copy of all that a store keeps, to be held against a later one.
type kept struct {
	clock, living int
	values        map[int]int
	txns          []transaction
	deferred      []int // how much each transaction has deferred: functions can't be compared
	holds         map[hold]int
	queues        map[int][]api.Lock
	wins          []int
}

func keptBy(s *Store) kept {
	k := kept{clock: s.clock, living: s.living, values: maps.Clone(s.values), holds: maps.Clone(s.holds), queues: maps.Clone(s.queues), wins: slices.Clone(s.wins)}
	for row, queue := range k.queues {
		k.queues[row] = slices.Clone(queue)
	}
	for _, t := range s.txns {
		c := *t
		c.ops, c.reads, c.deferred = slices.Clone(t.ops), slices.Clone(t.reads), nil
		k.txns = append(k.txns, c)
		k.deferred = append(k.deferred, len(t.deferred))
	}
	return k
}

// busy is a store with rows, a clock that has gone on, and some transactions.
func busy(t *testing.T, txns int) *Store {
	t.Helper()
	s, e := New([]api.Row{{Key: math.MinInt, Value: 1}, {Key: 0, Value: 2}, {Key: math.MaxInt, Value: 3}})
	if e != api.OK {
		t.Fatalf("New: %d", e)
	}
	s.Tick(100)
	for i := range txns {
		if _, e := s.Admit([]api.Op{{Kind: api.Read, A: i, B: 1}, {Kind: api.Delete, A: i}}); e != api.OK {
			t.Fatalf("Admit: %d", e)
		}
	}
	return s
}

// tussled is a store in which 1 has committed and 2 has stopped; 3 holds the row 0; 5 holds the row 5 and is wounded by 4, which waits for it; 6 and 7 wait for the row 0.
func tussled(t *testing.T) *Store {
	t.Helper()
	s := busy(t, 0)
	for _, ops := range [][]api.Op{
		{{Kind: api.Read, A: 0, B: 1}, {Kind: api.Write, A: 0, B: 1}},
		{{Kind: api.Delete, A: 0}, {Kind: api.Stop}},
		{{Kind: api.Write, A: 0}, {Kind: api.Delete, A: 0}, {Kind: api.Read, A: 1}},
		{{Kind: api.Read, A: 5, B: 2}},
		{{Kind: api.Write, A: 5}},
		{{Kind: api.Read, A: 0, B: 2}},
		{{Kind: api.Write, A: 0, B: 2}},
	} {
		s.Admit(ops)
	}
	for _, id := range []int{1, 1, 1, 2, 2, 3, 3, 5, 4, 6, 7} {
		s.Step(id)
	}
	if !s.txns[4].wounded || !s.txns[3].waiting || len(s.queues[0]) != 2 || len(s.txns[2].deferred) != 2 {
		t.Fatalf("not as it was to be: %+v", keptBy(s))
	}
	return s
}

func TestAnErrorChangesNothing(t *testing.T) {
	late := busy(t, 2)
	late.Tick(api.MaxClock - late.clock)
	called := tussled(t)
	called.Call(3)
	right := []api.Op{{Kind: api.Delete}}
	for _, c := range []struct {
		what string
		s    *Store
		want api.Errno
		call func(s *Store) api.Errno
	}{
		{"Tick below 0", busy(t, 2), api.ErrClock, func(s *Store) api.Errno { return s.Tick(-1) }},
		{"Tick of the least", busy(t, 2), api.ErrClock, func(s *Store) api.Errno { return s.Tick(math.MinInt) }},
		{"Tick too far", busy(t, 2), api.ErrClock, func(s *Store) api.Errno { return s.Tick(math.MaxInt) }},
		{"Tick at the end", late, api.ErrClock, func(s *Store) api.Errno { return s.Tick(1) }},
		{"Admit of 13", busy(t, 2), api.ErrLong, func(s *Store) api.Errno { return admitted(s, make([]api.Op, 13)) }},
		{"Admit of no kind", busy(t, 2), api.ErrOp, func(s *Store) api.Errno { return admitted(s, append(right, api.Op{})) }},
		{"Admit of no register", busy(t, 2), api.ErrOp, func(s *Store) api.Errno { return admitted(s, append(right, api.Op{Kind: api.Stop, A: 4})) }},
		{"Admit when full", busy(t, 12), api.ErrFull, func(s *Store) api.Errno { return admitted(s, right) }},
		{"Admit at the end", late, api.ErrClock, func(s *Store) api.Errno { return admitted(s, right) }},
		{"Admit when some wait", tussled(t), api.ErrOp, func(s *Store) api.Errno { return admitted(s, []api.Op{{}}) }},
		{"Txn of none", busy(t, 2), api.ErrTxn, func(s *Store) api.Errno { _, e := s.Txn(3); return e }},
		{"Step of none", tussled(t), api.ErrTxn, func(s *Store) api.Errno { return stepped(s, 8) }},
		{"Step of 0", tussled(t), api.ErrTxn, func(s *Store) api.Errno { return stepped(s, 0) }},
		{"Step of the least", tussled(t), api.ErrTxn, func(s *Store) api.Errno { return stepped(s, math.MinInt) }},
		{"Step of one that committed", tussled(t), api.ErrEnded, func(s *Store) api.Errno { return stepped(s, 1) }},
		{"Step of one that stopped", tussled(t), api.ErrEnded, func(s *Store) api.Errno { return stepped(s, 2) }},
		{"Step of one that was called off", called, api.ErrEnded, func(s *Store) api.Errno { return stepped(s, 3) }},
		{"Call of none", tussled(t), api.ErrTxn, func(s *Store) api.Errno { return s.Call(8) }},
		{"Call of 0", tussled(t), api.ErrTxn, func(s *Store) api.Errno { return s.Call(0) }},
		{"Call of the least", tussled(t), api.ErrTxn, func(s *Store) api.Errno { return s.Call(math.MinInt) }},
		{"Call of one that committed", tussled(t), api.ErrEnded, func(s *Store) api.Errno { return s.Call(1) }},
		{"Call of one that stopped", tussled(t), api.ErrEnded, func(s *Store) api.Errno { return s.Call(2) }},
		{"Call of one that was called off", called, api.ErrEnded, func(s *Store) api.Errno { return s.Call(3) }},
	} {
		before := keptBy(c.s)
		if e := c.call(c.s); e != c.want {
			t.Errorf("%s: %d, want %d", c.what, e, c.want)
		}
		if after := keptBy(c.s); !reflect.DeepEqual(before, after) {
			t.Errorf("%s: changed from %+v to %+v", c.what, before, after)
		}
	}
}

func admitted(s *Store, ops []api.Op) api.Errno {
	_, e := s.Admit(ops)
	return e
}

func stepped(s *Store, id int) api.Errno {
	_, e := s.Step(id)
	return e
}

func TestTellingChangesNothing(t *testing.T) {
	s := tussled(t)
	before := keptBy(s)
	s.Rows()
	s.Wins()
	for n := range 9 {
		s.Locks(n)
		s.Txn(n)
	}
	s.Tick(0)
	if after := keptBy(s); !reflect.DeepEqual(before, after) {
		t.Errorf("changed from %+v to %+v", before, after)
	}
}

func TestAdmitKeepsItsOwnOperations(t *testing.T) {
	want := []api.Op{{Kind: api.Read, A: 1, B: 2}, {Kind: api.Add, A: 1, B: 2, C: 3}}
	room := append(slices.Clone(want), api.Op{Kind: api.Stop}, api.Op{Kind: api.Stop})
	s := busy(t, 0)
	s.Admit(room[:2])
	s.Admit(room[:2])
	s.Admit(room[:0])
	clear(room)
	for i, ops := range [][]api.Op{want, want, {}} {
		if got := s.txns[i].ops; !slices.Equal(got, ops) {
			t.Errorf("operations of %d: %v, want %v", i+1, got, ops)
		}
	}
	s.txns[0].ops[0] = api.Op{}
	if got := s.txns[1].ops; !slices.Equal(got, want) {
		t.Errorf("two transactions share operations: %v", got)
	}
}

func TestNewKeepsRowsAndAClockAtZero(t *testing.T) {
	s, _ := New([]api.Row{{Key: 5, Value: 6}})
	want := kept{values: map[int]int{5: 6}, holds: map[hold]int{}, queues: map[int][]api.Lock{}}
	if got := keptBy(s); !reflect.DeepEqual(got, want) {
		t.Errorf("New keeps %+v, want %+v", got, want)
	}
}

// gone is a transaction of which each thing that Txn tells is set, to a value of its own.
func gone() *transaction {
	return &transaction{stamp: 11, state: api.Called, agains: 3, attempt: attempt{next: 2, registers: [4]int{5, -6, math.MaxInt, math.MinInt}, reads: append(make([]api.Seen, 0, 8), api.Seen{Key: 9, There: true, Value: 4}, api.Seen{Key: 1})}}
}

func TestTxnTellsAllOfATransaction(t *testing.T) {
	want := api.Txn{Stamp: 11, State: api.Called, Next: 2, Agains: 3, Registers: []int{5, -6, math.MaxInt, math.MinInt}, Reads: []api.Seen{{Key: 9, There: true, Value: 4}, {Key: 1}}}
	s := busy(t, 2)
	for _, flags := range [][2]bool{{false, false}, {true, false}, {false, true}, {true, true}} {
		s.txns[1] = gone()
		s.txns[1].wounded, s.txns[1].waiting = flags[0], flags[1]
		want.Wounded, want.Waiting = flags[0], flags[1]
		if got, e := s.Txn(2); e != api.OK || !reflect.DeepEqual(got, want) {
			t.Errorf("Txn(2) = %+v, %d, want %+v", got, e, want)
		}
	}
	if x, e := s.Txn(1); e != api.OK || x.Stamp != 101 || x.Next != 0 {
		t.Errorf("Txn(1) = %+v, %d", x, e)
	}
}

func TestWhatTxnTellsIsTheCallers(t *testing.T) {
	s := busy(t, 1)
	s.txns[0] = gone()
	want := s.txns[0].told()
	first, _ := s.Txn(1)
	second, _ := s.Txn(1)
	first.Registers = first.Registers[:cap(first.Registers)]
	first.Reads = first.Reads[:cap(first.Reads)]
	clear(first.Registers)
	clear(first.Reads)
	if !reflect.DeepEqual(second, want) {
		t.Errorf("two answers share room: %+v, want %+v", second, want)
	}
	room := s.txns[0].reads[:8]
	second.Reads = append(second.Reads, api.Seen{Key: 77})
	if room[2] != (api.Seen{}) {
		t.Errorf("written behind the reads: %v", room)
	}
	if third, _ := s.Txn(1); !reflect.DeepEqual(third, want) {
		t.Errorf("an answer is the store's own: %+v, want %+v", third, want)
	}
}

// One that waits asks for nothing anew: it stands in its queue once, and wounds nobody who came later.
func TestAStepThatWaitsOnChangesNothing(t *testing.T) {
	s := tussled(t)
	before := keptBy(s)
	for _, id := range []int{4, 6, 7, 4} {
		if did, e := s.Step(id); did != api.Waits || e != api.OK {
			t.Errorf("Step(%d) = %d, %d, want Waits", id, did, e)
		}
	}
	if after := keptBy(s); !reflect.DeepEqual(before, after) {
		t.Errorf("changed from %+v to %+v", before, after)
	}
}

// What no call can ask for any more is not kept.
func TestNothingIsLeftOfThoseThatEnded(t *testing.T) {
	s := tussled(t)
	for range 20 {
		for id := range s.txns {
			s.Step(id + 1)
		}
	}
	mustBeEmpty(t, s)
}

func TestNothingIsLeftOfThoseThatWereCalledOff(t *testing.T) {
	for _, order := range [][]int{{3, 4, 5, 6, 7}, {7, 6, 5, 4, 3}, {5, 4, 6, 3, 7}, {6, 3, 4, 7, 5}} {
		s := tussled(t)
		for _, id := range order {
			s.Call(id)
		}
		mustBeEmpty(t, s)
		if want := map[int]int{math.MinInt: 1, 0: 2, math.MaxInt: 3}; !maps.Equal(s.values, want) || s.clock != 107 {
			t.Errorf("called off in the order %v: the rows %v, the clock %d", order, s.values, s.clock)
		}
	}
}

// mustBeEmpty: none lives, and only what is told of those that ended is kept.
func mustBeEmpty(t *testing.T, s *Store) {
	t.Helper()
	if s.living != 0 || len(s.holds) != 0 || len(s.queues) != 0 {
		t.Errorf("left: %d that live, %v held, %v waited for", s.living, s.holds, s.queues)
	}
	for _, x := range s.txns {
		if x.state == api.Lives || x.ops != nil || x.deferred != nil {
			t.Errorf("%d keeps %v and %d deferred, in the state %d", x.number, x.ops, len(x.deferred), x.state)
		}
	}
}
