package tussle_test

import (
	"math"
	"slices"
	"testing"

	"tussle/api"
	"tussle/tussle"
)

// edges: numbers at which a sum, a difference or an index may go wrong.
var edges = []int{math.MinInt, math.MinInt + 1, -api.MaxClock, -1, 0, 1, 2, 3, 4, 12, 13, api.MaxClock - 1, api.MaxClock, api.MaxClock + 1, math.MaxInt - 1, math.MaxInt}

func read(key, register int) api.Op  { return api.Op{Kind: api.Read, A: key, B: register} }
func write(key, register int) api.Op { return api.Op{Kind: api.Write, A: key, B: register} }
func remove(key int) api.Op          { return api.Op{Kind: api.Delete, A: key} }
func add(a, b, c int) api.Op         { return api.Op{Kind: api.Add, A: a, B: b, C: c} }
func stop(register int) api.Op       { return api.Op{Kind: api.Stop, A: register} }

// pairs makes rows of keys and values in turn.
func pairs(numbers ...int) []api.Row {
	var rows []api.Row
	for i := 0; i+1 < len(numbers); i += 2 {
		rows = append(rows, api.Row{Key: numbers[i], Value: numbers[i+1]})
	}
	return rows
}

func open(t *testing.T, rows ...api.Row) *tussle.Store {
	t.Helper()
	s, e := tussle.New(rows)
	if s == nil || e != api.OK {
		t.Fatalf("New(%v): %v, %d", rows, s, e)
	}
	return s
}

func mustAdmit(t *testing.T, s *tussle.Store, want int, ops ...api.Op) {
	t.Helper()
	if id, e := s.Admit(ops); id != want || e != api.OK {
		t.Fatalf("Admit(%v) = %d, %d, want %d, OK", ops, id, e, want)
	}
}

func mustRefuse(t *testing.T, s *tussle.Store, want api.Errno, ops ...api.Op) {
	t.Helper()
	if id, e := s.Admit(ops); id != 0 || e != want {
		t.Errorf("Admit(%v) = %d, %d, want 0, %d", ops, id, e, want)
	}
}

func mustTick(t *testing.T, s *tussle.Store, n int, want api.Errno) {
	t.Helper()
	if e := s.Tick(n); e != want {
		t.Errorf("Tick(%d) = %d, want %d", n, e, want)
	}
}

func mustHaveRows(t *testing.T, s *tussle.Store, want []api.Row) {
	t.Helper()
	if got := s.Rows(); !slices.Equal(got, want) {
		t.Errorf("Rows() = %v, want %v", got, want)
	}
}

// mustBeNew: the transaction has this stamp, and has done nothing yet.
func mustBeNew(t *testing.T, s *tussle.Store, id, stamp int) {
	t.Helper()
	x, e := s.Txn(id)
	if e != api.OK {
		t.Fatalf("Txn(%d): %d", id, e)
	}
	still := x.State == api.Lives && x.Next == 0 && !x.Wounded && !x.Waiting && x.Agains == 0 && len(x.Reads) == 0
	if x.Stamp != stamp || !still || !slices.Equal(x.Registers, make([]int, api.Registers)) {
		t.Errorf("Txn(%d) = %+v, want a new one with the stamp %d", id, x, stamp)
	}
}

func mustBeUnknown(t *testing.T, s *tussle.Store, id int) {
	t.Helper()
	x, e := s.Txn(id)
	blank := x.Stamp == 0 && x.State == 0 && x.Next == 0 && !x.Wounded && !x.Waiting && x.Agains == 0 && len(x.Registers) == 0 && len(x.Reads) == 0
	if e != api.ErrTxn || !blank {
		t.Errorf("Txn(%d) = %+v, %d, want nothing, ErrTxn", id, x, e)
	}
}
