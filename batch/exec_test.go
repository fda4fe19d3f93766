package batch_test

import (
	"math"
	"regexp"
	"slices"
	"strings"
	"testing"

	"batch/api"
	"batch/batch"
)

const (
	opTrue = "\x00"
	opOk   = "\x01"
	opAny  = "\x02"
	opNot  = "\x03"
	opOver = "\x04"
	opAnd  = "\x05"
	opOr   = "\x06"
)

type execCase struct {
	code   string
	states []int
	value  int
	err    api.Errno
}

func checkExec(t *testing.T, cases []execCase) {
	t.Helper()
	for _, c := range cases {
		value, err := batch.Exec(c.code, c.states)
		if value != c.value || err != c.err {
			t.Errorf("Exec(%.30q, %v) = %d, %d, want %d, %d", c.code, c.states, value, err, c.value, c.err)
		}
	}
}

func TestP5OneJob(t *testing.T) {
	const u, y, n = api.Unknown, api.True, api.False
	for _, c := range []struct {
		op     string
		values [7]int // of Held, Queued, Running, Done, Failed, Cancelled, Never
	}{
		{opOk, [7]int{u, u, u, y, n, n, n}},
		{opAny, [7]int{u, u, u, y, y, y, n}},
		{opNot, [7]int{u, u, u, n, y, y, n}},
		{opOver, [7]int{u, u, u, y, y, y, y}},
	} {
		for state, value := range c.values {
			checkExec(t, []execCase{
				{c.op + "\x00", []int{state}, value, api.OK},
				{c.op + "\x01", []int{api.Held, state, api.Failed}, value, api.OK},
			})
		}
	}
}

func TestP5AndOr(t *testing.T) {
	const u, y, n = api.Unknown, api.True, api.False
	state := [3]int{u: api.Running, y: api.Done, n: api.Failed}
	and := [3][3]int{u: {u: u, y: u, n: n}, y: {u: u, y: y, n: n}, n: {u: n, y: n, n: n}}
	or := [3][3]int{u: {u: u, y: y, n: u}, y: {u: y, y: y, n: y}, n: {u: u, y: y, n: n}}
	for a := range 3 {
		for b := range 3 {
			states := []int{state[a], state[b]}
			checkExec(t, []execCase{
				{"\x01\x00\x01\x01" + opAnd, states, and[a][b], api.OK},
				{"\x01\x00\x01\x01" + opOr, states, or[a][b], api.OK},
			})
		}
	}
}

func TestP5Codes(t *testing.T) {
	checkExec(t, []execCase{
		{"\x01\x00\x03\x01\x06", []int{5, 5}, api.True, api.OK},
		{opTrue, nil, api.True, api.OK},
		{opTrue, []int{}, api.True, api.OK},
		{opTrue, []int{6, 0}, api.True, api.OK},
		{"\x01\x00\x01\x01\x01\x02" + opAnd + opOr, []int{3, 4, 4}, api.True, api.OK},
		{"\x01\x00\x01\x01" + opOr + "\x01\x02" + opAnd, []int{3, 4, 4}, api.False, api.OK},
		{"\x01\x06\x02\x05" + opAnd, []int{0, 0, 0, 0, 0, 4, 3}, api.True, api.OK},
	})
}

func TestP5NoCode(t *testing.T) {
	all := make([]int, api.MaxJobs)
	checkExec(t, []execCase{
		{"", nil, 0, api.ErrCode},
		{"\x00\x05", nil, 0, api.ErrCode},
		{opAnd, nil, 0, api.ErrCode},
		{opOr, nil, 0, api.ErrCode},
		{opTrue + opOr, nil, 0, api.ErrCode},
		{opTrue + opTrue, nil, 0, api.ErrCode},
		{opTrue + opAnd + opTrue, nil, 0, api.ErrCode},
		{opTrue + opTrue + opAnd + opOr, nil, 0, api.ErrCode},
		{opTrue + opTrue + opTrue + opAnd, nil, 0, api.ErrCode},
		{opOk, all, 0, api.ErrCode},
		{opOver, all, 0, api.ErrCode},
		{opTrue + opNot, all, 0, api.ErrCode},
		{opTrue + opTrue + opAnd + opAny, all, 0, api.ErrCode},
		{opTrue + "\x07", nil, 0, api.ErrCode},
		{"\x07\x00", all, 0, api.ErrCode},
		{"\x80", nil, 0, api.ErrCode},
		{"\xff", nil, 0, api.ErrCode},
		{"0", nil, 0, api.ErrCode},
		{opOk + "\xff", all, 0, api.ErrCode},
	})
}

func TestP5Bounds(t *testing.T) {
	full := make([]int, api.MaxJobs)
	full[api.MaxJobs-1] = api.Done
	for _, op := range []string{opOk, opAny, opOver} {
		checkExec(t, []execCase{
			{op + "\x17", full, api.True, api.OK},
			{op + "\x18", full, 0, api.ErrCode},
			{op + "\x17", full[1:], 0, api.ErrArg},
		})
	}
	for _, lay := range []string{opTrue, opOver + "\x00"} {
		for _, join := range []string{opAnd, opOr} {
			checkExec(t, []execCase{
				{strings.Repeat(lay, 24) + strings.Repeat(join, 23), []int{3}, api.True, api.OK},
				{strings.Repeat(lay, 25) + strings.Repeat(join, 24), []int{3}, 0, api.ErrCode},
				{strings.Repeat(lay, 23) + strings.Repeat(lay+join, 50) + strings.Repeat(join, 22), []int{3}, api.True, api.OK},
				{strings.Repeat(lay, 24) + strings.Repeat(lay+join, 50) + strings.Repeat(join, 23), []int{3}, 0, api.ErrCode},
			})
		}
	}
	checkExec(t, []execCase{
		{opTrue + strings.Repeat(opTrue+opAnd, 3999), nil, api.True, api.OK},
		{opNot + "\x00" + strings.Repeat(opTrue+opAnd, 3999), []int{3}, api.False, api.OK},
		{opTrue + strings.Repeat(opTrue+opAnd, 4000), nil, 0, api.ErrCode},
		{opOk + "\x00" + strings.Repeat(opTrue+opOr, 4000), []int{3}, 0, api.ErrCode},
	})
}

func TestP5Arguments(t *testing.T) {
	states := func(n, last int) []int {
		list := make([]int, n)
		list[n-1] = last
		return list
	}
	checkExec(t, []execCase{
		{opTrue, states(24, api.Never), api.True, api.OK},
		{opTrue, states(25, api.Held), 0, api.ErrArg},
		{opTrue, states(1000, api.Held), 0, api.ErrArg},
		{opTrue, []int{-1}, 0, api.ErrArg},
		{opTrue, []int{7}, 0, api.ErrArg},
		{opTrue, states(24, 7), 0, api.ErrArg},
		{opTrue, states(24, -1), 0, api.ErrArg},
		{opTrue, []int{math.MinInt}, 0, api.ErrArg},
		{opTrue, []int{math.MaxInt, 3}, 0, api.ErrArg},
		{opTrue, []int{3 + 1<<32}, 0, api.ErrArg},
		{"\x01\x00", nil, 0, api.ErrArg},
		{"\x04\x02", []int{3, 3}, 0, api.ErrArg},
		{"\x01\x01\x01\x00" + opOr, []int{3}, 0, api.ErrArg},
		{"\x01\x00\x01\x01" + opOr, []int{3}, 0, api.ErrArg},
	})
}

// ErrCode is named ahead of ErrArg (P1).
func TestP1ExecErrors(t *testing.T) {
	checkExec(t, []execCase{
		{"\x01\x00\x07", nil, 0, api.ErrCode},
		{"\x01\x05", nil, 0, api.ErrArg},
		{"\x01\x05" + opAnd, nil, 0, api.ErrCode},
		{"\x01\x17\x01\x18" + opAnd, nil, 0, api.ErrCode},
		{"\x07", []int{7}, 0, api.ErrCode},
		{"", make([]int, 25), 0, api.ErrCode},
	})
}

var (
	operations = regexp.MustCompile(`(?s)^(?:\x00|[\x01-\x04][\x00-\x17]|[\x05\x06])*$`)
	operation  = regexp.MustCompile(`(?s)\x00|[\x01-\x04].|[\x05\x06]`)
	joined     = regexp.MustCompile(`[TFU][TFU][&|]`)
)

// letters is what execByWords and the values of WANTs reckon with.
const letters = "UTF"

func ofState(kind string, state int) string {
	return map[string]string{"ok": "UUUTFFF", "any": "UUUTTTF", "not": "UUUFTTF", "over": "UUUTTTT"}[kind][state : state+1]
}

func joinLetters(a, b, op string) string {
	strong, weak := "F", "T"
	if op == "|" {
		strong, weak = "T", "F"
	}
	switch {
	case a == strong || b == strong:
		return strong
	case a == weak && b == weak:
		return weak
	}
	return "U"
}

// execByWords runs a code of few bytes, too few to reach a bound, by replacing
// two values and their operation by one value wherever they stand together.
func execByWords(code string, states []int) (int, api.Errno) {
	if !operations.MatchString(code) {
		return 0, api.ErrCode
	}
	lacking := false
	line := operation.ReplaceAllStringFunc(code, func(op string) string {
		switch op[0] {
		case api.OpTrue:
			return "T"
		case api.OpAnd:
			return "&"
		case api.OpOr:
			return "|"
		}
		if int(op[1]) >= len(states) {
			lacking = true
			return "U"
		}
		kind := []string{api.OpOk: "ok", api.OpAny: "any", api.OpNot: "not", api.OpOver: "over"}[op[0]]
		return ofState(kind, states[op[1]])
	})
	for joined.MatchString(line) {
		line = joined.ReplaceAllStringFunc(line, func(m string) string { return joinLetters(m[:1], m[1:2], m[2:]) })
	}
	if len(line) != 1 || !strings.Contains(letters, line) {
		return 0, api.ErrCode
	}
	if lacking {
		return 0, api.ErrArg
	}
	return strings.Index(letters, line), api.OK
}

func TestP5AllSmallCodes(t *testing.T) {
	const bytes = "\x00\x01\x02\x03\x04\x05\x06\x07\x17\x18\xff"
	states := make([]int, api.MaxJobs)
	for i := range states {
		states[i] = (i + 3) % 7
	}
	count := 0
	var try func(code string, left int)
	try = func(code string, left int) {
		for _, n := range []int{2, api.MaxJobs} {
			value, err := batch.Exec(code, states[:n])
			wantValue, wantErr := execByWords(code, states[:n])
			if value != wantValue || err != wantErr {
				t.Fatalf("Exec(%q, %v) = %d, %d, want %d, %d", code, states[:n], value, err, wantValue, wantErr)
			}
			if err == api.OK {
				count++
			}
		}
		for i := 0; left > 0 && i < len(bytes); i++ {
			try(code+bytes[i:i+1], left-1)
		}
	}
	try("", 5)
	if count < 1000 {
		t.Errorf("only %d codes", count)
	}
}

// Exec must answer at every string.
func TestP1ExecAnyBytes(t *testing.T) {
	states := make([]int, api.MaxJobs)
	for a := range 256 {
		one := string([]byte{byte(a)})
		for b := range 256 {
			two := one + string([]byte{byte(b)})
			for _, code := range []string{one, two, opTrue + two, two + opTrue + opAnd, opTrue + two + opOr} {
				value, err := batch.Exec(code, states)
				wantValue, wantErr := execByWords(code, states)
				if value != wantValue || err != wantErr {
					t.Fatalf("Exec(%q) = %d, %d, want %d, %d", code, value, err, wantValue, wantErr)
				}
			}
		}
		for _, n := range []int{24, 25, 7999, 8000, 8001, 100000} {
			value, err := batch.Exec(strings.Repeat(one, n), states)
			if value != 0 || err != api.ErrCode {
				t.Fatalf("Exec of %d times %d = %d, %d", n, a, value, err)
			}
		}
	}
}

func TestP2ExecWritesNothing(t *testing.T) {
	list := []int{3, 4, 5, 6, 0, 1, 2, 99}
	kept := slices.Clone(list)
	for _, code := range []string{"\x01\x00", "\x01\x00\x03\x01\x06", "\x01\x05", "\x07", ""} {
		batch.Exec(code, list[:2])
		batch.Exec(code, list)
		if !slices.Equal(list, kept) {
			t.Fatalf("Exec(%q) wrote into its list: %v", code, list)
		}
	}
}
