package tussle

import (
	"math"
	"runtime"
	"sync"
	"sync/atomic"
	"testing"

	"tussle/api"
)

// calls is each call of a store, with a number.
func calls() map[string]func(s *Store, n int) {
	return map[string]func(s *Store, n int){
		"Tick":  func(s *Store, n int) { s.Tick(n) },
		"Admit": func(s *Store, n int) { s.Admit([]api.Op{{Kind: n & 7, A: n, B: n & 3, C: n}}) },
		"Step":  func(s *Store, n int) { s.Step(n) },
		"Call":  func(s *Store, n int) { s.Call(n) },
		"Txn":   func(s *Store, n int) { s.Txn(n) },
		"Locks": func(s *Store, n int) { s.Locks(n) },
		"Rows":  func(s *Store, n int) { s.Rows() },
		"Wins":  func(s *Store, n int) { s.Wins() },
	}
}

// A call that is refused waits, too: what it was refused for is looked at behind the mutex.
func TestEachCallWaitsForTheMutex(t *testing.T) {
	for name, call := range calls() {
		for _, n := range []int{1, -1} {
			s := busy(t, 1)
			s.mutex.Lock()
			if endsEarly(s, func() { call(s, n) }) {
				t.Errorf("%s(%d) does not wait for the mutex", name, n)
			}
		}
	}
}

// endsEarly tells whether a call ended while the mutex was locked, and unlocks it, so that the call ends in any case.
func endsEarly(s *Store, call func()) bool {
	var done atomic.Bool
	begun, ended := make(chan int), make(chan int)
	go func() {
		close(begun)
		call()
		done.Store(true)
		close(ended)
	}()
	<-begun
	for range 2000 {
		runtime.Gosched()
	}
	early := done.Load()
	s.mutex.Unlock()
	<-ended
	return early
}

// With good numbers and bad ones, so that the ways out by an error are gone, too.
func TestEachCallLetsTheMutexGo(t *testing.T) {
	for name, call := range calls() {
		for _, n := range []int{math.MinInt, -1, 0, 1, 2, 3, 4, 5, 6, 8, 13, math.MaxInt} {
			s := tussled(t)
			call(s, n)
			if !s.mutex.TryLock() {
				t.Errorf("%s(%d) keeps the mutex", name, n)
			}
		}
	}
}

func TestNoCallPanicsInAnyOrder(t *testing.T) {
	numbers := []int{math.MinInt, -1, 0, 1, 2, 3, 4, 5, 6, 12, 13, api.MaxClock - 1, api.MaxClock, api.MaxClock + 1, math.MaxInt}
	for first, one := range calls() {
		for second, other := range calls() {
			s := tussled(t)
			for _, n := range numbers {
				for _, m := range numbers {
					one(s, n)
					other(s, m)
				}
			}
			if s.clock < 0 || s.clock > api.MaxClock || s.living < 0 || s.living > api.MaxTxns {
				t.Errorf("%s and %s: clock %d, living %d", first, second, s.clock, s.living)
			}
		}
	}
}

func TestCallsOfSeveralGoroutines(t *testing.T) {
	const workers, ticks = 8, 5000
	s := busy(t, 0)
	var group sync.WaitGroup
	for range workers {
		group.Go(func() {
			for range ticks {
				s.Tick(1)
				s.Rows()
			}
			s.Admit(nil)
			s.Admit(nil)
		})
	}
	group.Wait()
	if want := 100 + workers*ticks + api.MaxTxns; s.clock != want || len(s.txns) != api.MaxTxns {
		t.Errorf("clock %d, want %d; %d transactions", s.clock, want, len(s.txns))
	}
	for i := 1; i < len(s.txns); i++ {
		if s.txns[i].stamp <= s.txns[i-1].stamp {
			t.Errorf("the stamps %d and %d of two that follow one another", s.txns[i-1].stamp, s.txns[i].stamp)
		}
	}
}

// Each of them adds 1 to the same row: a step that came in between would be lost.
func TestStepsOfSeveralGoroutines(t *testing.T) {
	s := busy(t, 0)
	for range api.MaxTxns {
		s.Admit([]api.Op{{Kind: api.Read, A: 0, B: 3}, {Kind: api.Add, A: 3, B: 0, C: 1}, {Kind: api.Write, A: 0, B: 3}})
	}
	var group sync.WaitGroup
	for id := 1; id <= api.MaxTxns; id++ {
		group.Go(func() {
			for range 1_000_000 { // far more than are needed, so that the test ends when the steps lead nowhere
				if _, e := s.Step(id); e != api.OK {
					return
				}
				s.Locks(0)
				s.Wins()
				s.Txn(id)
				s.Rows()
			}
		})
	}
	group.Wait()
	if s.values[0] != 2+api.MaxTxns || len(s.wins) != api.MaxTxns || s.living != 0 {
		t.Errorf("the row 0 has %d; %v committed; %d live", s.values[0], s.wins, s.living)
	}
}

// Several goroutines call the same ones off, while others step them: each is called off once, or has committed.
func TestCallsOffOfSeveralGoroutines(t *testing.T) {
	const workers = 4
	s := busy(t, 0)
	for range api.MaxTxns {
		s.Admit([]api.Op{{Kind: api.Read, A: 0, B: 3}, {Kind: api.Add, A: 3, B: 0, C: 1}, {Kind: api.Write, A: 0, B: 3}})
	}
	var calledOff atomic.Int64
	var group sync.WaitGroup
	for range workers {
		group.Go(func() {
			for range 20 {
				for id := 1; id <= api.MaxTxns; id++ {
					s.Step(id)
				}
			}
			for id := 1; id <= api.MaxTxns; id++ {
				if s.Call(id) == api.OK {
					calledOff.Add(1)
				}
			}
		})
	}
	group.Wait()
	if won := len(s.wins); s.values[0] != 2+won || won+int(calledOff.Load()) != api.MaxTxns {
		t.Errorf("the row 0 has %d; %d committed; %d were called off", s.values[0], won, calledOff.Load())
	}
	mustBeEmpty(t, s)
}
