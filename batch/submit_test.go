package batch_test

import (
	"fmt"
	"math"
	"slices"
	"strings"
	"testing"

	"batch/api"
	"batch/batch"
)

func TestP6New(t *testing.T) {
	for _, nodes := range []int{0, -1, api.MaxNodes + 1, 100, math.MinInt, math.MaxInt, 1 + 1<<32} {
		s, err := batch.New(nodes)
		if s != nil || err != api.ErrArg {
			t.Errorf("New(%d) = %v, %d, want nil, ErrArg", nodes, s, err)
		}
	}
	for nodes := 1; nodes <= api.MaxNodes; nodes++ {
		s := newSystem(t, nodes)
		now, free, jobs := s.Clock()
		if now != 0 || free != nodes || jobs != 0 {
			t.Errorf("New(%d): Clock is %d, %d, %d", nodes, now, free, jobs)
		}
		if code, err := s.Code(0); code != "" || err != api.ErrJob {
			t.Errorf("New(%d): Code(0) = %q, %d", nodes, code, err)
		}
	}
}

// line writes a head of one node and of Time 1.
func line(name, more string) string {
	return "#J " + name + " nodes=1 time=1" + more
}

func lines(heads ...string) string {
	return strings.Join(heads, "\n")
}

func (p pair) mustTake(t *testing.T, text string) {
	t.Helper()
	if answer := p.submit(t, text); answer.Err != api.OK {
		t.Fatalf("Submit(%q) = %+v", text, answer)
	}
}

// checkRefused looks at the whole answer: with an error First and Count are 0,
// and there is no ring but with ErrCycle.
func (p pair) checkRefused(t *testing.T, faults []fault) {
	t.Helper()
	for _, f := range faults {
		got := p.submit(t, f.text)
		if got.Err != f.err || got.At != f.at || got.First != 0 || got.Count != 0 || (got.Cycle != nil) != (f.err == api.ErrCycle) {
			t.Errorf("Submit(%.90q) = %#v, want %d, %d", f.text, got, f.err, f.at)
		}
	}
}

func TestP7Taken(t *testing.T) {
	s := newSystem(t, 4)
	jobs := 0
	for _, c := range []struct {
		text  string
		count int
	}{
		{"#J a nodes=3 time=4\n#J b nodes=2 time=5\n#J c nodes=1 time=3", 3},
		{"#J d nodes=4 time=2 after=not:a", 1},
		{"#J d nodes=4 time=2 after=any:c&(ok:b|not:b)", 1},
		{"run\n#J x nodes=1 time=1 array=3-5\n\n#J y nodes=1 time=1 array=0-0 after=ok:x[3]\n", 4},
		{line("x", " after=single&ok:y[0]"), 1},
		{line("z", " array=94-99"), 6},
	} {
		got := s.Submit(c.text)
		want := api.Answer{First: jobs, Count: c.count}
		if fmt.Sprintf("%#v", got) != fmt.Sprintf("%#v", want) {
			t.Fatalf("Submit(%q) = %#v, want %#v", c.text, got, want)
		}
		jobs += c.count
		if _, _, n := s.Clock(); n != jobs {
			t.Fatalf("after Submit(%q): %d jobs, want %d", c.text, n, jobs)
		}
	}
}

func TestP7ErrorsOfRead(t *testing.T) {
	p := newPair(t, 8)
	p.checkRefused(t, []fault{
		{small + strings.Repeat("\n", api.MaxText), api.ErrLong, 0},
		{"", api.ErrSyntax, 0},
		{"echo", api.ErrSyntax, 4},
		{line("a", " after=ok:b)"), api.ErrSyntax, 30},
		{"#J a nodes=9 time=0", api.ErrLimit, 11},
		{line("a", " array=2-8"), api.ErrLimit, 26},
		{lines(small, small), api.ErrTwice, 23},
	})
}

func TestP7Nodes(t *testing.T) {
	for nodes := 1; nodes < api.MaxNodes; nodes++ {
		p := newPair(t, nodes)
		p.checkRefused(t, []fault{
			{fmt.Sprintf("#J a nodes=%d time=1", nodes+1), api.ErrNodes, 11},
			{"#J abc nodes=8 time=12 array=1-2", api.ErrNodes, 13},
			{lines(small, "x", "#J b nodes=8 time=1", "#J c nodes=8 time=1"), api.ErrNodes, 33},
		})
		p.mustTake(t, fmt.Sprintf("#J a nodes=%d time=1", nodes))
	}
	p := newPair(t, api.MaxNodes)
	p.mustTake(t, "#J a nodes=8 time=1")
}

func TestP7Refs(t *testing.T) {
	p := newPair(t, 1)
	p.mustTake(t, lines(line("o", ""), line("p", " array=2-4"), line("q", " array=1-6")))
	p.mustTake(t, lines(line("r", ""), line("q", "")))
	p.checkRefused(t, []fault{
		{line("a", " after=ok:b"), api.ErrRef, 29},
		{line("a", " after=any:b"), api.ErrRef, 30},
		{line("a", " after=not:b"), api.ErrRef, 30},
		{line("a", " after=ok:oo"), api.ErrRef, 29},
		{line("a", " after=ok:o[0]"), api.ErrRef, 29},
		{line("a", " after=ok:p[1]"), api.ErrRef, 29},
		{line("a", " after=ok:p[5]"), api.ErrRef, 29},
		{line("a", " after=ok:p[99]"), api.ErrRef, 29},
		// q means the later one, which has no array
		{line("a", " after=ok:q[1]"), api.ErrRef, 29},
		// the own batch goes ahead of earlier ones
		{lines(line("p", ""), line("a", " after=ok:p[2]")), api.ErrRef, 49},
		{lines(line("a", " after=ok:p[3]"), line("p", " array=0-2")), api.ErrRef, 29},
		{line("p", " after=ok:p[2]"), api.ErrRef, 29},
		{line("a", " after=ok:a[0]"), api.ErrRef, 29},
		{line("a", " array=1-2 after=ok:a[0]"), api.ErrRef, 39},
		{line("a", " array=1-2 after=ok:a[3]"), api.ErrRef, 39},
		// the first of several, in the text as it is and not in its plain form
		{line("a", " after=(ok:o|((any:x)))&ok:y"), api.ErrRef, 38},
		{line("a", " after=((((single))))|ok:o&(not:p[2]|ok:p[5])&ok:z"), api.ErrRef, 59},
		{lines(line("a", " after=ok:b"), "", line("b", " after=ok:c"), line("d", " after=ok:e")), api.ErrRef, 61},
	})
	p.mustTake(t, lines(line("a", " after=ok:o&any:p&not:p[2]|ok:p[3]&ok:p[4]&ok:q&any:r"), line("p", " array=2-4")))
	p.mustTake(t, line("b", " array=0-0 after=ok:p[4]|any:p&not:a"))
	p.mustTake(t, line("c", " after=ok:b[0]"))
}

func TestP7Rings(t *testing.T) {
	p := newPair(t, 2)
	for _, c := range []struct {
		text string
		ring []int
	}{
		{line("a", " after=ok:a"), []int{0}},
		{line("a", " array=1-3 after=any:a[2]"), []int{0}},
		{line("a", " after=single|(single&(not:a))"), []int{0}},
		{lines(line("a", ""), line("b", " after=not:b")), []int{1}},
		{lines(line("a", " after=ok:b"), line("b", " after=any:c"), line("c", " after=not:b")), []int{1, 2}},
		{lines(line("a", " after=ok:b"), line("b", " after=ok:a")), []int{0, 1}},
		{lines(line("a", " after=ok:d"), line("b", " after=ok:a"), line("c", ""), line("d", " after=ok:b&ok:c")), []int{0, 3, 1}},
		{lines(line("a", " after=ok:b"), line("b", " after=ok:c"), line("c", " after=ok:d"), line("d", " after=ok:d")), []int{3}},
	} {
		got := p.submit(t, c.text)
		if got.Err != api.ErrCycle || got.At != 0 || got.First != 0 || got.Count != 0 || !sameRing(got.Cycle, c.ring) {
			t.Errorf("Submit(%q) = %#v, want the ring %v", c.text, got, c.ring)
		}
	}
	p.mustTake(t, lines(line("a", " after=single"), line("b", " after=ok:a&ok:a"), line("c", " after=ok:a|ok:b")))
	p.mustTake(t, line("x", " after=ok:a&ok:b"))
	p.mustTake(t, line("a", " after=ok:x|ok:c"))
	p.mustTake(t, lines(line("b", " after=ok:a"), line("x", " after=ok:b")))
	if got := p.submit(t, lines(line("a", " after=ok:x"), line("x", " after=ok:a"))); !sameRing(got.Cycle, []int{0, 1}) {
		t.Errorf("names of earlier batches in a ring: %#v", got)
	}
}

func sameRing(got, want []int) bool {
	for k := range want {
		if slices.Equal(got, slices.Concat(want[k:], want[:k])) {
			return true
		}
	}
	return false
}

// Every way in which four heads may have REFs to one another.
func TestP7AllRingsOfFour(t *testing.T) {
	const names = "abcd"
	rings := 0
	for set := range 1 << 16 {
		var text []string
		has := make([][]bool, 4)
		for i := range 4 {
			has[i] = make([]bool, 4)
			var refs []string
			for k := range 4 {
				if set>>(4*i+k)&1 == 1 {
					has[i][k] = true
					refs = append(refs, "ok:"+names[k:k+1])
				}
			}
			more := ""
			if len(refs) > 0 {
				more = " after=" + strings.Join(refs, "&")
			}
			text = append(text, line(names[i:i+1], more))
		}
		got := newSystem(t, 1).Submit(lines(text...))
		if !hasRing(has) {
			if got.Err != api.OK || got.Count != 4 || got.Cycle != nil {
				t.Fatalf("Submit(%q) = %#v, want OK", lines(text...), got)
			}
			continue
		}
		rings++
		if got.Err != api.ErrCycle || got.At != 0 || got.First != 0 || got.Count != 0 || !isRing(has, got.Cycle) {
			t.Fatalf("Submit(%q) = %#v, want a ring", lines(text...), got)
		}
	}
	// of 65536 directed graphs 543 are without a ring
	if rings != 1<<16-543 {
		t.Errorf("%d with a ring", rings)
	}
}

// As many heads in one ring as a text has room for.
func TestP7LongRing(t *testing.T) {
	var text []string
	for i := range 19 {
		text = append(text, line(string(rune('a'+i)), " after=ok:"+string(rune('a'+(i+7)%19))))
	}
	p := newPair(t, 1)
	if got := p.submit(t, lines(text...)); got.Err != api.ErrCycle || len(got.Cycle) != 19 {
		t.Errorf("Submit(%q) = %#v, want a ring of 19", lines(text...), got)
	}
	for i := range text {
		broken := slices.Clone(text)
		broken[i] = line(string(rune('a'+i)), "")
		if got := newPair(t, 1).submit(t, lines(broken...)); got.Err != api.OK || got.Count != 19 {
			t.Errorf("Submit(%q) = %#v, want OK", lines(broken...), got)
		}
	}
}

func TestP7Full(t *testing.T) {
	six := func(name string) string { return line(name, " array=1-6") }
	p := newPair(t, 1)
	p.checkRefused(t, []fault{
		{lines(six("a"), six("b"), six("c"), six("d"), line("e", "")), api.ErrFull, 0},
		{lines(six("a"), six("b"), six("c"), line("d", " array=1-5"), line("e", " array=0-1")), api.ErrFull, 0},
	})
	p.mustTake(t, lines(six("a"), six("b"), six("c"), six("d")))
	p.checkRefused(t, []fault{
		{line("e", ""), api.ErrFull, 0},
		{six("a"), api.ErrFull, 0},
	})
	p = newPair(t, 1)
	for range 23 {
		p.mustTake(t, small)
	}
	p.checkRefused(t, []fault{
		{line("a", " array=0-1"), api.ErrFull, 0},
		{lines(line("a", ""), line("b", "")), api.ErrFull, 0},
	})
	p.mustTake(t, line("a", " array=0-0"))
	p.checkRefused(t, []fault{{small, api.ErrFull, 0}})
}

// The error named first is told, wherever the others stand in the text.
func TestP1WhichError(t *testing.T) {
	p := newPair(t, 2)
	for range 4 {
		p.mustTake(t, line("a", " array=1-6"))
	}
	const wide = "#J w nodes=3 time=1"
	ring := line("r", " after=ok:r")
	missing := line("m", " after=ok:zz")
	p.checkRefused(t, []fault{
		{lines(ring, missing, wide, line("x", "x")), api.ErrSyntax, 102},
		{lines(ring, missing, wide, "#J x nodes=0 time=1"), api.ErrLimit, 94},
		{lines(ring, missing, wide, line("r", "")), api.ErrTwice, 86},
		{lines(ring, missing, wide), api.ErrNodes, 74},
		{lines(wide, ring, missing), api.ErrNodes, 11},
		{lines(ring, missing), api.ErrRef, 60},
		{lines(missing, ring), api.ErrRef, 29},
		{ring, api.ErrCycle, 0},
		{small, api.ErrFull, 0},
	})
}

// With an error nothing changes: a system that refused much goes on like one
// that was never asked.
func TestP1RefusedChangesNothing(t *testing.T) {
	asked, twin := newPair(t, 2), newPair(t, 2)
	for _, text := range []string{
		lines(line("a", " array=1-3"), line("b", " after=ok:a")),
		line("a", " after=single&ok:b"),
		lines(line("c", " after=single|any:a"), line("b", " after=single")),
	} {
		for _, wrong := range []string{
			"", lines(line("d", ""), line("d", "")), "#J d nodes=3 time=1", line("d", " after=ok:d"), line("e", " after=ok:d"),
			lines(line("a", ""), line("b", " after=single&ok:b")), lines(line("a", ""), line("b", " array=0-5"), line("c", " after=ok:zz")),
			lines(line("a", " array=1-6"), line("b", " array=1-6"), line("c", " array=1-6"), line("d", " array=1-6 after=single"), line("e", "")),
		} {
			if got := asked.submit(t, wrong); got.Err == api.OK {
				t.Fatalf("Submit(%q) = %+v", wrong, got)
			}
		}
		asked.mustTake(t, text)
		twin.mustTake(t, text)
		for id := range twin.m.jobs {
			code, err := asked.s.Code(id)
			other, otherErr := twin.s.Code(id)
			if code != other || err != otherErr {
				t.Errorf("Code(%d): %q, %d, want %q, %d", id, code, err, other, otherErr)
			}
		}
	}
}

// Submit must answer at every string; what Read refuses it refuses alike.
func TestP1SubmitAnyBytes(t *testing.T) {
	const text = "#J a nodes=1 time=1 array=1-2 after=(ok:b[1]&any:b|single)\n#J b nodes=2 time=1 array=0-1"
	for i := range len(text) {
		for b := range 256 {
			one := string([]byte{byte(b)})
			for _, changed := range []string{text[:i], text[:i] + one + text[i+1:], text[:i] + one + text[i:]} {
				p := newPair(t, 1)
				p.submit(t, changed)
				p.submit(t, strings.Repeat(changed, 5))
			}
		}
	}
}

func TestP2Rings(t *testing.T) {
	s := newSystem(t, 1)
	text := lines(line("a", " after=ok:b"), line("b", " after=ok:a"))
	first := s.Submit(text).Cycle
	kept := slices.Clone(first)
	second := s.Submit(text).Cycle
	spoil(first)
	third := s.Submit(text).Cycle
	if !slices.Equal(second, kept) || !slices.Equal(third, kept) {
		t.Errorf("rings %v and %v, want %v", second, third, kept)
	}
}

// spoil writes into a list and into its spare room.
func spoil(list []int) {
	list = list[:cap(list)]
	for i := range list {
		list[i] = -7
	}
}

func TestP2SystemsApart(t *testing.T) {
	a, b := newPair(t, 2), newPair(t, 1)
	for range 3 {
		a.mustTake(t, lines(line("a", " array=1-3 after=single"), line("b", " after=ok:a[2]")))
		if got := b.submit(t, line("x", " after=ok:a")); got.Err != api.ErrRef {
			t.Errorf("a name of another system: %+v", got)
		}
		b.mustTake(t, line("b", " after=single"))
	}
	a.codes(t, [][]int{{3, 3, 3, 3, 4, 4, 4, 4, 5, 5, 5, 5}, make([]int, 12)})
	b.codes(t, allStates(3))
}
