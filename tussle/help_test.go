package tussle_test

import (
	"fmt"
	"math"
	"slices"
	"strings"
	"testing"

	"tussle/api"
	"tussle/tussle"
)

// edges: numbers at which a sum, a difference or an index may go wrong.
var edges = []int{math.MinInt, math.MinInt + 1, -api.MaxClock, -1, 0, 1, 2, 3, 4, 12, 13, api.MaxClock - 1, api.MaxClock, api.MaxClock + 1, math.MaxInt - 1, math.MaxInt}

func read(key, register int) api.Op  { return api.Op{Kind: api.Read, A: key, B: register} }
func write(key, register int) api.Op { return api.Op{Kind: api.Write, A: key, B: register} }
func remove(key int) api.Op          { return api.Op{Kind: api.Delete, A: key} }
func add(a, b, c int) api.Op         { return api.Op{Kind: api.Add, A: a, B: b, C: c} }
func stop(register int) api.Op       { return api.Op{Kind: api.Stop, A: register} }

// pairs makes rows of keys and values in turn.
func pairs(numbers ...int) []api.Row {
	var rows []api.Row
	for i := 0; i+1 < len(numbers); i += 2 {
		rows = append(rows, api.Row{Key: numbers[i], Value: numbers[i+1]})
	}
	return rows
}

func open(t *testing.T, rows ...api.Row) *tussle.Store {
	t.Helper()
	s, e := tussle.New(rows)
	if s == nil || e != api.OK {
		t.Fatalf("New(%v): %v, %d", rows, s, e)
	}
	return s
}

func mustAdmit(t *testing.T, s *tussle.Store, want int, ops ...api.Op) {
	t.Helper()
	if id, e := s.Admit(ops); id != want || e != api.OK {
		t.Fatalf("Admit(%v) = %d, %d, want %d, OK", ops, id, e, want)
	}
}

func mustRefuse(t *testing.T, s *tussle.Store, want api.Errno, ops ...api.Op) {
	t.Helper()
	if id, e := s.Admit(ops); id != 0 || e != want {
		t.Errorf("Admit(%v) = %d, %d, want 0, %d", ops, id, e, want)
	}
}

func mustTick(t *testing.T, s *tussle.Store, n int, want api.Errno) {
	t.Helper()
	if e := s.Tick(n); e != want {
		t.Errorf("Tick(%d) = %d, want %d", n, e, want)
	}
}

func mustHaveRows(t *testing.T, s *tussle.Store, want []api.Row) {
	t.Helper()
	if got := s.Rows(); !slices.Equal(got, want) {
		t.Errorf("Rows() = %v, want %v", got, want)
	}
}

// mustBeNew: the transaction has this stamp, and has done nothing yet.
func mustBeNew(t *testing.T, s *tussle.Store, id, stamp int) {
	t.Helper()
	x, e := s.Txn(id)
	if e != api.OK {
		t.Fatalf("Txn(%d): %d", id, e)
	}
	still := x.State == api.Lives && x.Next == 0 && !x.Wounded && !x.Waiting && x.Agains == 0 && len(x.Reads) == 0
	if x.Stamp != stamp || !still || !slices.Equal(x.Registers, make([]int, api.Registers)) {
		t.Errorf("Txn(%d) = %+v, want a new one with the stamp %d", id, x, stamp)
	}
}

func mustBeUnknown(t *testing.T, s *tussle.Store, id int) {
	t.Helper()
	x, e := s.Txn(id)
	blank := x.Stamp == 0 && x.State == 0 && x.Next == 0 && !x.Wounded && !x.Waiting && x.Agains == 0 && len(x.Registers) == 0 && len(x.Reads) == 0
	if e != api.ErrTxn || !blank {
		t.Errorf("Txn(%d) = %+v, %d, want nothing, ErrTxn", id, x, e)
	}
}

// mustStep makes a step of a transaction for each answer that is wanted.
func mustStep(t *testing.T, s *tussle.Store, id int, wants ...int) {
	t.Helper()
	for i, want := range wants {
		if did, e := s.Step(id); did != want || e != api.OK {
			t.Fatalf("step %d of %d: %d, %d, want %d, OK", i+1, id, did, e, want)
		}
	}
}

func mustNotStep(t *testing.T, s *tussle.Store, id int, want api.Errno) {
	t.Helper()
	if did, e := s.Step(id); did != 0 || e != want {
		t.Errorf("Step(%d) = %d, %d, want 0, %d", id, did, e, want)
	}
}

func mustCall(t *testing.T, s *tussle.Store, id int) {
	t.Helper()
	if e := s.Call(id); e != api.OK {
		t.Fatalf("Call(%d) = %d, want OK", id, e)
	}
}

func mustNotCall(t *testing.T, s *tussle.Store, id int, want api.Errno) {
	t.Helper()
	if e := s.Call(id); e != want {
		t.Errorf("Call(%d) = %d, want %d", id, e, want)
	}
}

// written writes locks as numbers with S for Shared, W for Whole.
func written(locks []api.Lock) string {
	var words []string
	for _, lock := range locks {
		mode := map[int]string{api.Shared: "S", api.Whole: "W"}[lock.Mode]
		words = append(words, fmt.Sprint(lock.Txn, mode))
	}
	return strings.ReplaceAll(strings.Join(words, ","), " ", "")
}

// mustHaveLocks wants holders and waiters as written writes them.
func mustHaveLocks(t *testing.T, s *tussle.Store, row int, holders, waiters string) {
	t.Helper()
	h, w := s.Locks(row)
	if written(h) != holders || written(w) != waiters {
		t.Errorf("Locks(%d): %s hold, %s wait, want %s and %s", row, written(h), written(w), holders, waiters)
	}
}

// those are the numbers of the transactions of which something is told.
func those(s *tussle.Store, is func(x api.Txn) bool) []int {
	var ids []int
	for id := 1; ; id++ {
		x, e := s.Txn(id)
		if e != api.OK {
			return ids
		}
		if is(x) {
			ids = append(ids, id)
		}
	}
}

// mustBeWounded: these are, and no other one is.
func mustBeWounded(t *testing.T, s *tussle.Store, want ...int) {
	t.Helper()
	if got := those(s, func(x api.Txn) bool { return x.Wounded }); !slices.Equal(got, want) {
		t.Errorf("%v are wounded, want %v", got, want)
	}
}

// mustWait: these do, and no other one does.
func mustWait(t *testing.T, s *tussle.Store, want ...int) {
	t.Helper()
	if got := those(s, func(x api.Txn) bool { return x.Waiting }); !slices.Equal(got, want) {
		t.Errorf("%v wait, want %v", got, want)
	}
}

func mustHaveWon(t *testing.T, s *tussle.Store, want ...int) {
	t.Helper()
	if got := s.Wins(); !slices.Equal(got, want) {
		t.Errorf("Wins() = %v, want %v", got, want)
	}
}

// mustBeTold: want without registers means that all of them are 0.
func mustBeTold(t *testing.T, s *tussle.Store, id int, want api.Txn) {
	t.Helper()
	got, e := s.Txn(id)
	if len(want.Registers) == 0 {
		want.Registers = make([]int, api.Registers)
	}
	if e != api.OK || !sameTxn(got, want) {
		t.Errorf("Txn(%d) = %+v, %d, want %+v", id, got, e, want)
	}
}

func sameTxn(x, y api.Txn) bool {
	if !slices.Equal(x.Registers, y.Registers) || !slices.Equal(x.Reads, y.Reads) {
		return false
	}
	return x.Stamp == y.Stamp && x.State == y.State && x.Next == y.Next && x.Wounded == y.Wounded && x.Waiting == y.Waiting && x.Agains == y.Agains
}
