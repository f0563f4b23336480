package api

import "testing"

// The numbers are part of what the document says, so a changed one is a fault even where all code uses the names.
func TestNumbersOfTheDocument(t *testing.T) {
	for _, c := range []struct {
		what string
		got  []int
		want []int
	}{
		{"errors", []int{int(OK), int(ErrOp), int(ErrLong), int(ErrFull), int(ErrClock), int(ErrTxn), int(ErrEnded), int(ErrOrder)}, []int{0, 1, 2, 3, 4, 5, 6, 7}},
		{"limits", []int{Registers, MaxOps, MaxTxns, MaxRows, MaxClock}, []int{4, 12, 12, 16, 1099511627776}},
		{"operations", []int{Read, Write, Delete, Add, Stop}, []int{1, 2, 3, 4, 5}},
		{"modes", []int{Shared, Whole}, []int{1, 2}},
		{"steps", []int{Did, Waits, Again, Stopped, Crowded, Committed}, []int{1, 2, 3, 4, 5, 6}},
		{"states", []int{Lives, Won, Gave, Fell, Called}, []int{0, 1, 2, 3, 4}},
	} {
		for i := range c.want {
			if c.got[i] != c.want[i] {
				t.Errorf("%s, number %d: %d, want %d", c.what, i, c.got[i], c.want[i])
			}
		}
	}
}
