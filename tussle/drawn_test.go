package tussle_test

import (
	"fmt"
	"math"
	"math/rand/v2"
	"slices"
	"testing"

	"tussle/api"
	"tussle/tussle"
)

// drawn is a store with transactions that are drawn, and the model of it.
type drawn struct {
	t     *testing.T
	r     *rand.Rand
	s     *tussle.Store
	m     *model
	first []api.Row
	keys  []int // that operations may name

	called map[at]int // how many were called off, by what they were at
}

// at is what a transaction is at when it is called off.
type at struct {
	wounded, waiting bool
}

func (x *modelTxn) at() at { return at{x.Wounded, x.Waiting} }

func draw(t *testing.T, seed uint64) *drawn {
	d := &drawn{t: t, r: rand.New(rand.NewPCG(seed, 1)), keys: []int{0}}
	for i := range []int{1, 2, 3, 5, 9, 60}[seed%6] {
		d.keys = append(d.keys, []int{i + 1, -i - 1, math.MaxInt - i, math.MinInt + i}[d.r.IntN(4)])
	}
	slices.Sort(d.keys)
	for _, key := range d.keys {
		if d.r.IntN(2) == 0 {
			d.first = append(d.first, api.Row{Key: key, Value: d.r.IntN(9) - 4})
		}
	}
	d.s, d.m = open(t, d.first...), newModel(d.first)
	return d
}

func (d *drawn) op() api.Op {
	key, a, b := d.keys[d.r.IntN(len(d.keys))], d.r.IntN(4), d.r.IntN(4)
	switch d.r.IntN(12) {
	case 0, 1, 2, 3:
		return read(key, a)
	case 4, 5, 6:
		return write(key, a)
	case 7, 8:
		return remove(key)
	case 9:
		return stop(a)
	}
	return add(a, b, d.r.IntN(9)-4)
}

func (d *drawn) admit() {
	ops := make([]api.Op, d.r.IntN(api.MaxOps+1))
	for i := range ops {
		ops[i] = d.op()
	}
	mustAdmit(d.t, d.s, len(d.m.txns)+1, ops...)
	d.m.admit(ops)
}

func (d *drawn) living() []int {
	return those(d.s, func(x api.Txn) bool { return x.State == api.Lives })
}

func (d *drawn) step(id int) {
	d.t.Helper()
	d.watch(fmt.Sprint("step of ", id), func() {
		if did, e := d.s.Step(id); e != api.OK || did != d.m.step(id) {
			d.t.Fatalf("step of %d: %d, %d: not so in the model", id, did, e)
		}
	})
}

func (d *drawn) call(id int) {
	d.t.Helper()
	d.watch(fmt.Sprint("call of ", id), func() {
		mustCall(d.t, d.s, id)
		d.m.call(id)
	})
}

// watch sees to it that nothing wounds the eldest that lives: P12.
func (d *drawn) watch(what string, do func()) {
	d.t.Helper()
	eldest := d.m.txns[d.living()[0]-1]
	was := eldest.Wounded
	do()
	d.compare(what)
	if x, _ := d.s.Txn(eldest.id); x.Wounded && !was {
		d.t.Fatalf("P12: %s: the eldest, %d, is wounded", what, eldest.id)
	}
}

// compare holds all that is to be seen against the model, and against what is promised of every state.
func (d *drawn) compare(what string) {
	d.t.Helper()
	for _, x := range d.m.txns {
		if got, e := d.s.Txn(x.id); e != api.OK || !sameTxn(got, x.Txn) {
			d.t.Fatalf("%s: Txn(%d) = %+v, %d, want %+v", what, x.id, got, e, x.Txn)
		}
	}
	if rows := d.s.Rows(); !slices.Equal(rows, d.m.told()) {
		d.t.Fatalf("%s: Rows() = %v, want %v", what, rows, d.m.told())
	}
	if wins := d.s.Wins(); !slices.Equal(wins, d.m.wins) {
		d.t.Fatalf("%s: Wins() = %v, want %v", what, wins, d.m.wins)
	}
	for _, key := range d.keys {
		at := d.m.line(key)
		mustHaveLocks(d.t, d.s, key, written(at.holders), written(at.queue))
		d.nobodyWaitsForAYoungerOne(key)
	}
	if d.t.Failed() {
		d.t.Fatalf("that was behind the %s", what)
	}
}

// nobodyWaitsForAYoungerOne that is not wounded: P11.
func (d *drawn) nobodyWaitsForAYoungerOne(key int) {
	d.t.Helper()
	holders, queue := d.s.Locks(key)
	for i, waiter := range queue {
		for _, other := range slices.Concat(holders, queue[:i]) {
			x, _ := d.s.Txn(waiter.Txn)
			y, _ := d.s.Txn(other.Txn)
			if against(waiter, other) && !y.Wounded && y.Stamp > x.Stamp {
				d.t.Errorf("P11: %d waits for %d, which is younger and not wounded", waiter.Txn, other.Txn)
			}
		}
	}
}

// rounds: each that lives makes a step, till none lives; the eldest one ends in time (P12).
func (d *drawn) rounds() {
	d.t.Helper()
	for living := d.living(); len(living) > 0; living = d.living() {
		eldest := living[0]
		m := len(d.m.txns[eldest-1].ops)
		for n := 0; slices.Contains(living, eldest); n++ {
			if n == 3*m+4 {
				d.t.Fatalf("P12: %d, the eldest, with %d operations, lives after %d rounds", eldest, m, n)
			}
			for _, id := range d.order(living) {
				d.step(id)
			}
			living = d.living()
		}
	}
}

// order: rising, falling, or drawn.
func (d *drawn) order(ids []int) []int {
	ids = slices.Clone(ids)
	switch d.r.IntN(3) {
	case 0:
		slices.Reverse(ids)
	case 1:
		d.r.Shuffle(len(ids), func(i, j int) { ids[i], ids[j] = ids[j], ids[i] })
	}
	return ids
}

// oneBehindTheOther does those that won alone, each on what the one ahead of it left: P10.
func (d *drawn) oneBehindTheOther() {
	d.t.Helper()
	alone := open(d.t, d.first...)
	for n, id := range d.s.Wins() {
		x := d.m.txns[id-1]
		mustAdmit(d.t, alone, n+1, x.ops...)
		mustStep(d.t, alone, n+1, append(slices.Repeat([]int{api.Did}, len(x.ops)), api.Committed)...)
		told, _ := d.s.Txn(id)
		if y, _ := alone.Txn(n + 1); !slices.Equal(told.Reads, y.Reads) {
			d.t.Fatalf("P10: %d read %v, alone %v", id, told.Reads, y.Reads)
		}
	}
	mustHaveRows(d.t, d.s, alone.Rows())
}

// turn is what is done next: mostly a step, now and then one more is admitted, or one is called off.
func (d *drawn) turn() {
	d.t.Helper()
	living := d.living()
	if len(living) == 0 || len(living) < api.MaxTxns && d.r.IntN(8) == 0 {
		d.admit()
		return
	}
	id := living[d.r.IntN(len(living))]
	if d.r.IntN(16) == 0 {
		d.called[d.m.txns[id-1].at()]++
		d.call(id)
		return
	}
	d.step(id)
}

// Steps of transactions in an order that is drawn, some of them admitted or called off while others run; then rounds up to the end.
func TestDrawnTransactions(t *testing.T) {
	ends, agains, called := map[int]int{}, 0, map[at]int{}
	for seed := range uint64(300) {
		d := draw(t, seed)
		d.called = called
		for range 1 + d.r.IntN(api.MaxTxns) {
			d.admit()
		}
		for range d.r.IntN(150) {
			d.turn()
		}
		d.rounds()
		d.oneBehindTheOther()
		for _, x := range d.m.txns {
			ends[x.State]++
			agains += x.Agains
		}
	}
	// What is not drawn is not tested.
	for _, state := range []int{api.Won, api.Gave, api.Fell, api.Called} {
		if ends[state] < 50 {
			t.Errorf("too few were drawn that end in the state %d: %v", state, ends)
		}
	}
	for _, when := range []at{{}, {wounded: true}, {waiting: true}, {wounded: true, waiting: true}} {
		if called[when] < 20 {
			t.Errorf("too few were called off when they were %+v: %v", when, called)
		}
	}
	if agains < 50 {
		t.Errorf("only %d began again", agains)
	}
}
