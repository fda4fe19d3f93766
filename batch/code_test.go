package batch_test

import (
	"math"
	"math/rand"
	"testing"

	"batch/api"
	"batch/batch"
)

// checkValue runs the code of a job.
func checkValue(t *testing.T, s *batch.System, id, want int, states ...int) {
	t.Helper()
	code, err := s.Code(id)
	value, execErr := batch.Exec(code, states)
	if err != api.OK || execErr != api.OK || value != want {
		t.Errorf("Code(%d) = %q, %d; by %v it leaves %d, %d, want %d", id, code, err, states, value, execErr, want)
	}
}

func TestP9JobNumbers(t *testing.T) {
	p := newPair(t, 1)
	for jobs := 0; jobs <= api.MaxJobs; jobs++ {
		for _, id := range []int{-1, jobs, jobs + 1, -jobs - 1, api.MaxJobs, 255, 256, math.MinInt, math.MaxInt, 1 << 32} {
			code, err := p.s.Code(id)
			if code != "" || err != api.ErrJob {
				t.Errorf("%d jobs: Code(%d) = %q, %d", jobs, id, code, err)
			}
		}
		for id := range jobs {
			code, err := p.s.Code(id)
			if code == "" || err != api.OK {
				t.Errorf("%d jobs: Code(%d) = %q, %d", jobs, id, code, err)
			}
		}
		if jobs < api.MaxJobs {
			p.mustTake(t, small)
		}
	}
}

func TestP9Wants(t *testing.T) {
	s := newSystem(t, 1)
	s.Submit(lines(line("a", " array=4-5"), line("b", " after=ok:a"), line("c", " after=any:a[5]"), line("d", " after=not:a&(ok:c|any:b)")))
	const held, run, done, failed, gone, never = api.Held, api.Running, api.Done, api.Failed, api.Cancelled, api.Never
	checkValue(t, s, 0, api.True, held, held, held, held, held)
	checkValue(t, s, 1, api.True, never, held, held, held, held)
	checkValue(t, s, 2, api.Unknown, done, run, held, held, held)
	checkValue(t, s, 2, api.True, done, done, held, held, held)
	checkValue(t, s, 2, api.False, run, failed, held, held, held)
	checkValue(t, s, 3, api.Unknown, done, run, held, held, held)
	checkValue(t, s, 3, api.True, held, gone, held, held, held)
	checkValue(t, s, 3, api.False, done, never, held, held, held)
	checkValue(t, s, 4, api.False, failed, done, done, done, held)
	checkValue(t, s, 4, api.True, failed, gone, held, done, held)
	checkValue(t, s, 4, api.True, failed, gone, failed, held, held)
	checkValue(t, s, 4, api.Unknown, failed, gone, held, failed, held)
	checkValue(t, s, 4, api.False, failed, gone, never, failed, held)
}

// & binds closer than |, and brackets closer than both.
func TestP9Joining(t *testing.T) {
	for _, want := range []string{
		"ok:a|ok:b&ok:c", "ok:a&ok:b|ok:c", "(ok:a|ok:b)&ok:c", "ok:a&(ok:b|ok:c)", "(ok:a|ok:b&ok:c)", "ok:a|(ok:b|ok:c)",
		"not:a&any:b&ok:c", "not:a|any:b|ok:c", "(ok:a|not:b)&(ok:b|not:c)|any:a&any:c", "ok:a&(ok:b|ok:c&(not:a|any:b))",
	} {
		p := newPair(t, 1)
		p.mustTake(t, lines(line("a", ""), line("b", ""), line("c", ""), line("d", " after="+want)))
		p.codes(t, allStates(4))
	}
}

// All small WANTs, brackets and all, by all values of their leaves.
func TestP9AllSmallWants(t *testing.T) {
	var lists [][]int
	for n := range 3 * 3 * 3 * 3 * 3 {
		states := make([]int, 6)
		for i := range 5 {
			states[i] = []int{api.Queued, api.Done, api.Never}[n%3]
			n /= 3
		}
		lists = append(lists, states)
	}
	count := 0
	for _, want := range wants(nil, "", 0, 0, 13, true) {
		s := newSystem(t, 1)
		s.Submit(lines(line("a", ""), line("b", ""), line("c", ""), line("d", ""), line("e", "")))
		if got := s.Submit(line("x", " after="+want)); got.Err != api.OK {
			continue // more leaves than five
		}
		count++
		code, _ := s.Code(5)
		for k := count % 7; k < len(lists); k += 7 {
			value, err := batch.Exec(code, lists[k])
			letter := leafIn.ReplaceAllStringFunc(want, func(leaf string) string { return ofState("ok", lists[k][leaf[3]-'a']) })
			if value != valueOf(letter) || err != api.OK {
				t.Fatalf("after=%s: %q by %v leaves %d, %d, want %d", want, code, lists[k], value, err, valueOf(letter))
			}
		}
	}
	if count < 500 {
		t.Errorf("only %d WANTs", count)
	}
}

func TestP9WhichJobs(t *testing.T) {
	p := newPair(t, 1)
	p.mustTake(t, lines(line("b", " after=ok:a"), line("a", "")))
	p.mustTake(t, lines(line("a", " array=7-8"), line("x", " after=ok:a[8]&ok:b")))
	p.codes(t, allStates(5))
	p.mustTake(t, lines(line("y", " after=ok:a"), line("z", " after=not:a[7]|any:b")))
	p.mustTake(t, line("a", " after=ok:b&any:y"))
	p.mustTake(t, lines(line("b", " after=ok:a"), line("y", " array=0-1 after=ok:z&ok:b&ok:x")))
	p.codes(t, someStates(rand.New(rand.NewSource(2)), 11, 300))
	const d, f = api.Done, api.Failed
	// job 5, y, means the a of jobs 2 and 3, though a came again as job 7
	checkValue(t, p.s, 5, api.True, f, f, d, d, f, f, f, f, f, f, f)
	checkValue(t, p.s, 5, api.False, d, d, d, f, d, d, d, d, d, d, d)
	// job 8, b, means the a of job 7, and job 9, y, the b of its own batch
	checkValue(t, p.s, 8, api.True, f, f, f, f, f, f, f, d, f, f, f)
	checkValue(t, p.s, 9, api.True, f, f, f, f, d, f, d, f, d, f, f)
}

func TestP9Single(t *testing.T) {
	p := newPair(t, 1)
	p.mustTake(t, lines(line("a", " array=1-2 after=single"), line("b", " after=single")))
	checkValue(t, p.s, 0, api.True, 0, 0, 0)
	checkValue(t, p.s, 1, api.True, 2, 0, 0)
	checkValue(t, p.s, 2, api.True, 2, 2, 0)
	p.mustTake(t, lines(line("b", ""), line("a", " array=1-2 after=single")))
	p.mustTake(t, lines(line("c", " after=single"), line("b", " after=single&ok:c")))
	p.codes(t, someStates(rand.New(rand.NewSource(3)), 8, 300))
	for _, end := range []int{api.Done, api.Failed, api.Cancelled, api.Never} {
		checkValue(t, p.s, 4, api.True, end, end, 0, 0, 0, 0, 0, 0)
		checkValue(t, p.s, 5, api.Unknown, end, api.Running, end, end, end, end, end, end)
		checkValue(t, p.s, 6, api.True, 0, 0, 0, 0, 0, 0, 0, 0)
		checkValue(t, p.s, 7, api.True, 0, 0, end, end, 0, 0, api.Done, 0)
		checkValue(t, p.s, 7, api.Unknown, 0, 0, end, 0, 0, 0, api.Done, 0)
	}
}

// The longest codes and the highest stacks that a text can ask for.
func TestP9Bounds(t *testing.T) {
	const deep = "any:a|any:a&(any:a|any:a&(any:a|any:a&(any:a|any:a&(any:a|any:a&not:a))))"
	rng := rand.New(rand.NewSource(4))
	for _, c := range []struct{ name, first, more string }{
		{"a", "single", "|single"},
		{"a", "single", "&single"},
		{"a", "single", "&single|single"},
		{"a", "(single)", "&(single)"},
		{"a", "single|single&(single|single&(single|single&(single|single&(single|single&single))))", "|single&single"},
		{"b", "ok:a", "|any:a"},
		{"b", "ok:a", "&not:a"},
		{"b", deep, "|" + deep},
		{"b", deep, "&(any:a|any:a&(any:a|any:a&(any:a|any:a&(any:a|any:a&not:a))))"},
	} {
		p := newPair(t, 1)
		p.mustTake(t, line("a", " array=1-5"))
		for range 3 {
			p.mustTake(t, line("a", " array=1-6"))
		}
		text := line(c.name, " after="+c.first)
		for len(text)+len(c.more) <= api.MaxText {
			text += c.more
		}
		p.mustTake(t, text)
		code, _ := p.s.Code(23)
		if len(code) > api.MaxCode {
			t.Errorf("%q: %d bytes", text, len(code))
		}
		p.codes(t, someStates(rng, 24, 20))
	}
}

// As long as no batch is taken the code is the same each time.
func TestP9SameEachTime(t *testing.T) {
	p := newPair(t, 1)
	p.mustTake(t, lines(line("a", " array=1-3"), line("b", " after=single&ok:a[1]|not:a")))
	p.mustTake(t, lines(line("a", " after=single&any:c|single"), line("c", ""), line("b", " array=0-1 after=single|ok:a")))
	for id := range p.m.jobs {
		first, _ := p.s.Code(id)
		p.s.Code(id + 1)
		p.s.Submit(line("x", " after=ok:x"))
		p.s.Submit("")
		if again, err := p.s.Code(id); again != first || err != api.OK {
			t.Errorf("Code(%d) = %q, then %q, %d", id, first, again, err)
		}
	}
}
