// Package value has the values of jobs, and runs the codes that work them out.
package value

import "batch/api"

// And is False if one of the two is, else True if both are.
func And(a, b int) int {
	if a == api.False || b == api.False {
		return api.False
	}
	if a == api.True && b == api.True {
		return api.True
	}
	return api.Unknown
}

// Or is True if one of the two is, else False if both are.
func Or(a, b int) int {
	if a == api.True || b == api.True {
		return api.True
	}
	if a == api.False && b == api.False {
		return api.False
	}
	return api.Unknown
}

// OfJob tells ok, any, not or over, as op says, of a job in this state.
func OfJob(op, state int) int {
	if state < api.Done {
		return api.Unknown
	}
	switch op {
	case api.OpOk:
		return known(state == api.Done)
	case api.OpAny:
		return known(state != api.Never)
	case api.OpNot:
		return known(state == api.Failed || state == api.Cancelled)
	}
	return api.True
}

func known(b bool) int {
	if b {
		return api.True
	}
	return api.False
}

// AsksJob tells whether op is one of the four with a job's number behind them.
func AsksJob(op int) bool {
	return op >= api.OpOk && op <= api.OpOver
}
