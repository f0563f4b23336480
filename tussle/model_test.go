package tussle_test

import (
	"maps"
	"slices"

	"tussle/api"
)

// model does what the document's Words say in another way than the store: what a transaction changes lies beside the rows till it commits, so that nothing is to be put back, and each row has a list of its holders.
type model struct {
	rows  map[int]int
	txns  []*modelTxn
	lines map[int]*line
	wins  []int
}

type modelTxn struct {
	api.Txn
	id  int
	ops []api.Op
	own map[int]api.Seen // what it has changed
}

type line struct {
	holders, queue []api.Lock
}

func newModel(rows []api.Row) *model {
	m := &model{rows: map[int]int{}, lines: map[int]*line{}}
	for _, row := range rows {
		m.rows[row.Key] = row.Value
	}
	return m
}

func (m *model) admit(ops []api.Op) {
	id := len(m.txns) + 1
	m.txns = append(m.txns, &modelTxn{Txn: api.Txn{Stamp: id, Registers: make([]int, 4)}, id: id, ops: ops, own: map[int]api.Seen{}})
}

func (m *model) line(row int) *line {
	if m.lines[row] == nil {
		m.lines[row] = &line{}
	}
	return m.lines[row]
}

func (m *model) step(id int) int {
	x := m.txns[id-1]
	if x.Wounded {
		m.undo(x)
		x.Agains++
		return api.Again
	}
	if x.Waiting {
		return api.Waits
	}
	if x.Next == len(x.ops) {
		m.keep(x)
		m.letGo(x)
		x.State = api.Won
		m.wins = append(m.wins, id)
		return api.Committed
	}
	op := x.ops[x.Next]
	if op.Kind == api.Stop && x.Registers[op.A] == 0 {
		m.undo(x)
		x.State = api.Gave
		return api.Stopped
	}
	if op.Kind != api.Stop && op.Kind != api.Add {
		if did := m.ask(x, op); did != api.Did {
			return did
		}
	}
	m.do(x, op)
	return api.Did
}

func (m *model) call(id int) {
	x := m.txns[id-1]
	m.undo(x)
	x.State = api.Called
}

// ask answers Did if the operation may be done.
func (m *model) ask(x *modelTxn, op api.Op) int {
	mine := api.Lock{Txn: x.id, Mode: api.Whole}
	at := m.line(op.A)
	if slices.Contains(at.holders, mine) {
		return api.Did
	}
	if op.Kind == api.Read {
		mine.Mode = api.Shared
		if slices.Contains(at.holders, mine) {
			return api.Did
		}
	}
	if len(at.holders)+len(at.queue) == 0 && m.busyRows() == 16 {
		m.undo(x)
		x.State = api.Fell
		return api.Crowded
	}
	at.queue = append(at.queue, mine)
	x.Waiting = true
	m.advance(at)
	if !x.Waiting {
		return api.Did
	}
	for _, other := range slices.Concat(at.holders, at.queue) {
		if other.Txn > x.id && against(mine, other) {
			m.txns[other.Txn-1].Wounded = true
		}
	}
	return api.Waits
}

func against(one, other api.Lock) bool {
	return one.Txn != other.Txn && one.Mode+other.Mode > 2*api.Shared
}

func (m *model) busyRows() int {
	n := 0
	for _, at := range m.lines {
		if len(at.holders)+len(at.queue) > 0 {
			n++
		}
	}
	return n
}

// advance lets the first ones of a queue in.
func (m *model) advance(at *line) {
	for len(at.queue) > 0 {
		first := at.queue[0]
		if slices.ContainsFunc(at.holders, func(held api.Lock) bool { return against(first, held) }) {
			return
		}
		at.queue = at.queue[1:]
		at.holders = append(without(at.holders, first.Txn), first)
		slices.SortFunc(at.holders, func(a, b api.Lock) int { return a.Txn - b.Txn })
		m.txns[first.Txn-1].Waiting = false
	}
}

func without(locks []api.Lock, id int) []api.Lock {
	return slices.DeleteFunc(slices.Clone(locks), func(lock api.Lock) bool { return lock.Txn == id })
}

func (m *model) do(x *modelTxn, op api.Op) {
	x.Next++
	switch op.Kind {
	case api.Read:
		seen, mine := x.own[op.A]
		if !mine {
			seen = api.Seen{Key: op.A}
			seen.Value, seen.There = m.rows[op.A]
		}
		x.Registers[op.B] = seen.Value
		x.Reads = append(x.Reads, seen)
	case api.Write:
		x.own[op.A] = api.Seen{Key: op.A, There: true, Value: x.Registers[op.B]}
	case api.Delete:
		x.own[op.A] = api.Seen{Key: op.A}
	case api.Add:
		x.Registers[op.A] = x.Registers[op.A] + op.C + x.Registers[op.B]
	}
}

func (m *model) keep(x *modelTxn) {
	lay(m.rows, x.own)
	clear(x.own)
}

func lay(rows map[int]int, changed map[int]api.Seen) {
	for row, seen := range changed {
		if seen.There {
			rows[row] = seen.Value
		} else {
			delete(rows, row)
		}
	}
}

func (m *model) undo(x *modelTxn) {
	clear(x.own)
	x.Txn = api.Txn{Stamp: x.Stamp, Agains: x.Agains, Registers: make([]int, 4)}
	m.letGo(x)
}

func (m *model) letGo(x *modelTxn) {
	for _, at := range m.lines {
		at.holders, at.queue = without(at.holders, x.id), without(at.queue, x.id)
		m.advance(at)
	}
}

// told is the rows with all that lies beside them.
func (m *model) told() []api.Row {
	all := maps.Clone(m.rows)
	for _, x := range m.txns {
		lay(all, x.own)
	}
	var rows []api.Row
	for _, row := range slices.Sorted(maps.Keys(all)) {
		rows = append(rows, api.Row{Key: row, Value: all[row]})
	}
	return rows
}
