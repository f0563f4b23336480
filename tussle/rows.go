package tussle

import (
	"maps"
	"slices"

	"tussle/api"
)

func keysRise(rows []api.Row) bool {
	for i := 1; i < len(rows); i++ {
		// Compared, not subtracted: the difference of two keys may go round.
		if rows[i].Key <= rows[i-1].Key {
			return false
		}
	}
	return true
}

func valuesByKey(rows []api.Row) map[int]int {
	values := make(map[int]int, len(rows))
	for _, row := range rows {
		values[row.Key] = row.Value
	}
	return values
}

// sortedRows: a map is gone through in no order, so the keys are sorted ahead of telling.
func sortedRows(values map[int]int) []api.Row {
	rows := make([]api.Row, 0, len(values))
	for _, key := range slices.Sorted(maps.Keys(values)) {
		rows = append(rows, api.Row{Key: key, Value: values[key]})
	}
	return rows
}
