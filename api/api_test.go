package api

import "testing"

// The document gives these numbers; callers may have written them down.
func TestNumbers(t *testing.T) {
	errors := []Errno{OK, ErrLong, ErrSyntax, ErrLimit, ErrTwice, ErrNodes, ErrRef, ErrCycle, ErrFull, ErrCode, ErrArg, ErrJob, ErrState, ErrTime}
	for i, e := range errors {
		if int(e) != i {
			t.Errorf("error %d has the number %d", i, e)
		}
	}
	inOrder := [][]int{
		{Held, Queued, Running, Done, Failed, Cancelled, Never},
		{Unknown, True, False},
		{OpTrue, OpOk, OpAny, OpNot, OpOver, OpAnd, OpOr},
	}
	for _, l := range inOrder {
		for i, n := range l {
			if n != i {
				t.Errorf("%v: %d in the place of %d", l, n, i)
			}
		}
	}
	bounds := []int{MaxText, MaxName, MaxDepth, MaxNodes, MaxTime, MaxArray, MaxJobs, MaxCode, MaxStack, MaxTicks, MaxNow}
	for i, want := range []int{600, 6, 4, 8, 12, 6, 24, 8000, 24, 200, 3000} {
		if bounds[i] != want {
			t.Errorf("bound %d is %d, want %d", i, bounds[i], want)
		}
	}
}
