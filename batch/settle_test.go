package batch_test

import (
	"fmt"
	"math"
	"slices"
	"testing"

	"batch/api"
	"batch/batch"
)

func TestP6P10Examples(t *testing.T) {
	w := newWorld(t, 4)
	w.clock(t, 0, 4, 0)
	w.queued(t)
	w.mustTake(t, wide("a", 3, 4, ""), wide("b", 2, 5, ""), wide("c", 1, 3, ""))
	w.is(t, 0, api.Running, 0, -1)
	w.is(t, 1, api.Queued, 4, -1)
	w.is(t, 2, api.Running, 0, -1)
	w.queued(t, 1)
	w.clock(t, 0, 0, 3)

	w = newWorld(t, 1)
	for range 3 {
		w.mustTake(t, wide("a", 1, 2, " after=single"))
	}
	w.is(t, 0, api.Running, 0, -1)
	w.is(t, 1, api.Held, -1, -1)
	w.is(t, 2, api.Held, -1, -1)
	w.clock(t, 0, 0, 3)
	w.tick(t, 2)
	w.is(t, 0, api.Failed, 0, 2)
	w.is(t, 1, api.Running, 2, -1)
	w.is(t, 2, api.Held, -1, -1)
	w.clock(t, 2, 0, 3)

	w = newWorld(t, 2)
	w.mustTake(t, wide("r", 2, 5, ""))
	for i, c := range []struct{ nodes, time, start int }{{1, 3, 5}, {2, 1, 8}, {1, 3, 5}, {1, 4, 9}} {
		w.mustTake(t, wide("q", c.nodes, c.time, ""))
		w.is(t, 1+i, api.Queued, c.start, -1)
	}
	w.queued(t, 1, 2, 3, 4)
}

func TestP6ClockCountsRunningJobs(t *testing.T) {
	w := newWorld(t, 8)
	w.mustTake(t, wide("a", 1, 2, ""), wide("b", 2, 3, ""), wide("h", 3, 1, " after=any:b"), wide("c", 4, 4, ""), wide("q", 8, 1, ""))
	w.clock(t, 0, 1, 5)
	for i, free := range []int{1, 2, 1, 0, 8, 8} {
		w.tick(t, 1)
		w.clock(t, i+1, free, 5)
	}
}

func TestP8Taken(t *testing.T) {
	w := newWorld(t, 2)
	w.tick(t, 7)
	w.mustTake(t, wide("h", 2, 9, " array=4-5 after=any:r"), wide("r", 2, 12, ""), wide("n", 1, 1, " after=not:r&ok:h"), wide("q", 1, 5, ""))
	for id, want := range []api.Status{
		{State: api.Held, Nodes: 2, Time: 9, Start: -1, End: -1},
		{State: api.Held, Nodes: 2, Time: 9, Start: -1, End: -1},
		{State: api.Running, Nodes: 2, Time: 12, Start: 7, End: -1},
		{State: api.Held, Nodes: 1, Time: 1, Start: -1, End: -1},
		{State: api.Queued, Nodes: 1, Time: 5, Start: 19, End: -1},
	} {
		if got, err := w.s.Status(id); got != want || err != api.OK {
			t.Errorf("Status(%d) = %+v, %d, want %+v", id, got, err, want)
		}
	}
	w.clock(t, 7, 0, 5)
}

func TestP10WrongNumbers(t *testing.T) {
	s := newSystem(t, 1)
	wrong := []int{-1, 0, 1, api.MaxJobs - 1, api.MaxJobs, 255, 256, math.MinInt, math.MaxInt, 1 << 32, -1 << 32}
	for jobs := range 3 {
		for _, id := range wrong {
			if id >= 0 && id < jobs {
				continue
			}
			if got, err := s.Status(id); got != (api.Status{}) || err != api.ErrJob {
				t.Errorf("%d jobs: Status(%d) = %+v, %d, want ErrJob", jobs, id, got, err)
			}
		}
		s.Submit(small)
	}
	s = newSystem(t, 1)
	for _, name := range []string{"a", "b", "c", "d"} {
		s.Submit(line(name, " array=1-6"))
	}
	if got, err := s.Status(api.MaxJobs - 1); got != (api.Status{State: api.Queued, Nodes: 1, Time: 1, Start: 23, End: -1}) || err != api.OK {
		t.Errorf("the last job: %+v, %d", got, err)
	}
	if got, err := s.Status(api.MaxJobs); got != (api.Status{}) || err != api.ErrJob {
		t.Errorf("beyond the last job: %+v, %d", got, err)
	}
}

// A job keeps its place: the order of the queue is that in which jobs came to
// it, and neither that of their numbers nor that of their starts.
func TestP10OrderOfQueue(t *testing.T) {
	w := newWorld(t, 1)
	w.mustTake(t, wide("late", 1, 1, " after=any:x"), wide("x", 1, 1, ""), wide("y", 1, 3, ""), wide("z", 1, 3, ""))
	w.queued(t, 2, 3)
	w.tick(t, 1)
	w.queued(t, 3, 0)
	w.is(t, 0, api.Queued, 7, -1)
	w.mustTake(t, small)
	w.queued(t, 3, 0, 4)
	w.tick(t, 3)
	w.queued(t, 0, 4)

	w = newWorld(t, 2)
	w.mustTake(t, wide("a", 1, 4, ""), wide("b", 2, 2, ""), wide("c", 1, 5, ""), wide("d", 1, 5, ""), wide("e", 1, 3, ""), wide("f", 1, 2, ""))
	for id, start := range []int{0, 4, 6, 6, 0, 11} {
		if got, _ := w.s.Status(id); got.Start != start {
			t.Errorf("job %d: %+v, want start %d", id, got, start)
		}
	}
	w.tick(t, 3)
	w.mustTake(t, small)
	w.is(t, 6, api.Running, 3, -1)
	w.mustTake(t, wide("h", 1, 1, ""))
	w.queued(t, 1, 2, 3, 5, 7)
}

func TestP11Never(t *testing.T) {
	w := newWorld(t, 2)
	w.mustTake(t,
		wide("p", 1, 1, " after=any:q"),
		wide("q", 1, 1, " after=ok:r|not:r"),
		wide("r", 1, 1, " after=ok:x"),
		wide("x", 1, 2, ""),
		wide("y", 1, 9, ""),
		wide("u", 1, 1, " after=ok:x|any:y"),
		wide("v", 1, 1, " after=ok:x&any:y"))
	w.mustTake(t, wide("r", 1, 1, " after=single"), wide("w", 1, 1, " array=1-2 after=ok:y"))
	for _, id := range []int{0, 1, 2, 5, 6, 7, 8, 9} {
		w.is(t, id, api.Held, -1, -1)
	}
	w.tick(t, 1)
	for _, id := range []int{0, 1, 2, 5, 6, 7, 8, 9} {
		w.is(t, id, api.Held, -1, -1)
	}
	w.tick(t, 1)
	w.is(t, 3, api.Failed, 0, 2)
	for _, id := range []int{0, 1, 2, 6} {
		w.is(t, id, api.Never, -1, 2)
	}
	w.is(t, 5, api.Held, -1, -1)
	// a job that is Never is over
	w.is(t, 7, api.Running, 2, -1)
	w.tick(t, 1)
	w.mustTake(t, wide("g", 1, 1, " after=not:f"), wide("f", 1, 1, " after=not:q"))
	w.is(t, 10, api.Never, -1, 3)
	w.is(t, 11, api.Never, -1, 3)
	w.tick(t, 6)
	w.is(t, 5, api.Running, 9, -1)
	w.is(t, 8, api.Never, -1, 9)
	w.is(t, 9, api.Never, -1, 9)
	w.is(t, 2, api.Never, -1, 2)
}

// A chain as long as there are jobs, each of which waits for one behind it.
func TestP11LongNeverChain(t *testing.T) {
	w := newWorld(t, 1)
	w.mustTake(t, wide("x", 1, 1, ""))
	var heads []string
	for i := range 17 {
		heads = append(heads, line(string(rune('a'+i)), " after=ok:"+string(rune('b'+i))))
	}
	w.mustTake(t, append(heads, line("r", " after=ok:x"))...)
	w.tick(t, 1)
	for id := range 18 {
		w.is(t, 1+id, api.Never, -1, 1)
	}
}

// Several jobs that may run at once come in the order of their numbers, behind
// those that are queued.
func TestP11OrderOfNumbers(t *testing.T) {
	w := newWorld(t, 1)
	w.mustTake(t, wide("a", 1, 3, ""), wide("d", 1, 2, " array=0-1 after=any:a"), wide("c", 1, 1, " after=not:a"), wide("b", 1, 4, ""), wide("e", 1, 1, " after=any:a&single"))
	w.queued(t, 4)
	w.is(t, 4, api.Queued, 3, -1)
	w.tick(t, 3)
	w.queued(t, 1, 2, 3, 5)
	w.is(t, 4, api.Running, 3, -1)
	for i, start := range []int{7, 9, 11} {
		w.is(t, 1+i, api.Queued, start, -1)
	}
	w.is(t, 5, api.Queued, 12, -1)

	// those that find nodes run at once, also beside one that must wait
	w = newWorld(t, 3)
	w.mustTake(t, wide("x", 1, 1, ""), wide("a", 2, 5, " after=any:x"), wide("b", 2, 5, " after=any:x"), wide("c", 1, 5, " after=any:x"), wide("d", 1, 5, " after=any:x"))
	w.tick(t, 1)
	w.is(t, 1, api.Running, 1, -1)
	w.is(t, 2, api.Queued, 6, -1)
	w.is(t, 3, api.Running, 1, -1)
	w.is(t, 4, api.Queued, 6, -1)
	w.queued(t, 2, 4)
	w.clock(t, 1, 0, 5)
}

func TestP11Gaps(t *testing.T) {
	w := newWorld(t, 4)
	w.mustTake(t, wide("a", 3, 4, ""))
	for i, c := range []struct{ nodes, time, start int }{
		{4, 2, 4},
		// it would run on into job 1
		{1, 5, 6},
		// it ends where job 1 begins
		{1, 4, 0},
		{1, 1, 6},
		{4, 1, 11},
		// beside job 2 there are 3 nodes from 7 to 11
		{3, 5, 12},
		{3, 4, 7},
		{1, 5, 12},
		{1, 1, 6},
		{1, 1, 6},
		{1, 1, 17},
	} {
		w.mustTake(t, wide("b", c.nodes, c.time, ""))
		if got, _ := w.s.Status(1 + i); got.Start != c.start {
			t.Errorf("job %d: %+v, want start %d", 1+i, got, c.start)
		}
	}
	w.is(t, 3, api.Running, 0, -1)
	w.runOut(t)
}

func TestP12TimeEnds(t *testing.T) {
	w := newWorld(t, 3)
	w.mustTake(t, wide("a", 1, 12, ""), wide("b", 1, 3, ""), wide("c", 1, 3, ""), wide("d", 2, 1, ""), wide("e", 3, 2, ""), wide("f", 1, 1, " after=not:b&not:c"))
	w.is(t, 3, api.Queued, 3, -1)
	w.is(t, 4, api.Queued, 12, -1)
	w.tick(t, 2)
	w.is(t, 1, api.Running, 0, -1)
	w.tick(t, 1)
	w.is(t, 1, api.Failed, 0, 3)
	w.is(t, 2, api.Failed, 0, 3)
	w.is(t, 3, api.Running, 3, -1)
	w.is(t, 5, api.Queued, 4, -1)
	w.tick(t, 1)
	w.is(t, 3, api.Failed, 3, 4)
	w.is(t, 5, api.Running, 4, -1)
	w.clock(t, 4, 1, 6)
	w.tick(t, 7)
	w.is(t, 0, api.Running, 0, -1)
	w.is(t, 5, api.Failed, 4, 5)
	w.tick(t, 1)
	w.is(t, 0, api.Failed, 0, 12)
	w.is(t, 4, api.Running, 12, -1)
	w.clock(t, 12, 0, 6)
	w.tick(t, 200)
	w.is(t, 4, api.Failed, 12, 14)
	w.clock(t, 212, 3, 6)
}

// A Tick of n is n of 1: a queue moves up within it.
func TestP12OneTickOrMany(t *testing.T) {
	text := lines(wide("a", 2, 3, " array=1-4"), wide("b", 1, 2, " array=1-3 after=any:a[2]"), wide("c", 3, 4, " after=not:b[1]|ok:b"), wide("d", 1, 1, " after=ok:c"))
	for n := 1; n <= 40; n++ {
		one, many := newWorld(t, 3), newWorld(t, 3)
		one.mustTake(t, text)
		many.mustTake(t, text)
		one.tick(t, n)
		for range n {
			many.tick(t, 1)
		}
		if !slices.Equal(told(one.s), told(many.s)) {
			t.Errorf("Tick(%d): %v, want %v", n, told(one.s), told(many.s))
		}
	}
}

// told puts all that a system tells of its jobs in one list.
func told(s *batch.System) []string {
	now, free, jobs := s.Clock()
	list := []string{fmt.Sprint(now, free, jobs, s.Queue())}
	for id := range jobs {
		status, err := s.Status(id)
		code, codeErr := s.Code(id)
		list = append(list, fmt.Sprintf("%+v %d %q %d", status, err, code, codeErr))
	}
	return list
}

func TestP12Bounds(t *testing.T) {
	wrong := []int{0, -1, api.MaxTicks + 1, api.MaxNow, math.MinInt, math.MaxInt, 1 + 1<<32}
	refuse := func(w *world, want api.Errno, ns ...int) {
		t.Helper()
		before := told(w.s)
		for _, n := range ns {
			if err := w.s.Tick(n); err != want {
				t.Errorf("at %d: Tick(%d) = %d, want %d", w.now, n, err, want)
			}
			if got := told(w.s); !slices.Equal(got, before) {
				t.Fatalf("at %d: Tick(%d) changed %v to %v", w.now, n, before, got)
			}
		}
	}
	w := newWorld(t, 1)
	w.mustTake(t, wide("a", 1, 1, " array=1-3"))
	refuse(w, api.ErrArg, wrong...)
	w.tick(t, 1)
	w.tick(t, api.MaxTicks)
	for range 13 {
		w.tick(t, api.MaxTicks)
	}
	w.clock(t, 2801, 1, 3)
	refuse(w, api.ErrTime, 200)
	w.tick(t, 149)
	w.mustTake(t, wide("b", 1, 12, " array=1-6"))
	refuse(w, api.ErrTime, 51, 52, 199, 200)
	w.tick(t, 48)
	refuse(w, api.ErrTime, 3, 200)
	w.tick(t, 2)
	w.clock(t, api.MaxNow, 0, 9)
	refuse(w, api.ErrTime, 1, 2, 199, 200)
	refuse(w, api.ErrArg, wrong...)
	w.is(t, 7, api.Running, 2998, -1)
	w.is(t, 8, api.Queued, 3010, -1)
}

// At the last time jobs still are taken, and have starts beyond it.
func TestP12LastTime(t *testing.T) {
	w := newWorld(t, 2)
	for range 15 {
		w.tick(t, api.MaxTicks)
	}
	w.mustTake(t, wide("a", 1, 12, ""), wide("b", 2, 12, ""), wide("c", 1, 1, " after=single"), wide("d", 1, 1, " after=any:a"), wide("e", 2, 12, " array=1-6"))
	w.is(t, 0, api.Running, 3000, -1)
	w.is(t, 1, api.Queued, 3012, -1)
	w.is(t, 2, api.Running, 3000, -1)
	w.is(t, 3, api.Held, -1, -1)
	w.is(t, 9, api.Queued, 3084, -1)
	w.tick(t, 1)
	w.clock(t, 3000, 0, 10)
}

// Jobs one after the other, and jobs side by side: all end within the sum of
// their times, and with the last unit of it where none ran beside another.
func TestP14AllEnd(t *testing.T) {
	w := newWorld(t, 8)
	w.mustTake(t, wide("a", 8, 12, " array=1-6"), wide("b", 8, 12, " array=1-6 after=any:a"), wide("c", 8, 12, " array=1-6 after=not:b"))
	w.mustTake(t, wide("a", 8, 12, " array=0-5 after=single"))
	if w.rest() != 288 {
		t.Fatalf("the sum of the times is %d", w.rest())
	}
	w.tick(t, 200)
	w.tick(t, 87)
	w.is(t, 17, api.Running, 276, -1)
	w.tick(t, 1)
	w.is(t, 17, api.Failed, 276, 288)
	w.clock(t, 288, 8, 24)
	if w.rest() != 0 {
		t.Errorf("jobs are left: %+v", w.jobs)
	}
}

func TestP2QueueIsFresh(t *testing.T) {
	w := newWorld(t, 1)
	w.mustTake(t, wide("a", 1, 2, " array=1-6"), wide("b", 1, 1, " after=any:a[1]"))
	for range 8 {
		first := w.s.Queue()
		second := w.s.Queue()
		kept := slices.Clone(second)
		spoil(first)
		if !slices.Equal(second, kept) {
			t.Errorf("at %d: a list that was told changed to %v, was %v", w.now, second, kept)
		}
		w.check(t)
		late := w.s.Queue()
		spoil(second)
		w.tick(t, 2)
		if len(late) > 0 && late[0] != kept[0] {
			t.Errorf("at %d: Tick changed a list that was told: %v, was %v", w.now, late, kept)
		}
	}
	w.queued(t)
}

// A list that was told has no room in common with the queue: neither one
// grows into the other.
func TestP2QueueHasOwnRoom(t *testing.T) {
	w := newWorld(t, 1)
	for range 20 {
		list := w.s.Queue()
		kept := slices.Clone(list)
		list = append(list, -5)
		w.mustTake(t, wide("a", 1, 1, ""))
		w.check(t)
		if !slices.Equal(list, append(kept, -5)) {
			t.Errorf("Submit changed a list that was told: %v", list)
		}
	}
}

func TestP2WorldsApart(t *testing.T) {
	a, b := newWorld(t, 2), newWorld(t, 5)
	for i := range 6 {
		a.mustTake(t, wide("a", 2, 3, ""), wide("b", 1, 2, " after=any:a"))
		b.check(t)
		b.mustTake(t, wide("a", 1+i%5, 5, " array=0-1"), wide("c", 5, 1, " after=ok:a"))
		a.check(t)
		a.tick(t, 1+i)
		b.check(t)
		b.tick(t, 2)
		a.check(t)
	}
	a.runOut(t)
	b.check(t)
	b.runOut(t)
	a.check(t)
}

// A batch that is refused does not let the system settle anew or time go by.
func TestP1RefusedBatchesLeaveJobs(t *testing.T) {
	w := newWorld(t, 2)
	w.mustTake(t, wide("a", 2, 4, ""), wide("b", 1, 2, ""), wide("h", 1, 1, " after=not:b"))
	for range 8 {
		before := told(w.s)
		for _, text := range []string{"", wide("c", 3, 1, ""), wide("c", 1, 1, " after=ok:c"), wide("c", 1, 1, " after=ok:z"), lines(line("c", ""), line("c", "")),
			lines(line("c", " array=1-6"), line("d", " array=1-6"), line("e", " array=1-6"), line("f", " array=1-6"))} {
			if answer := w.submit(t, text); answer.Err == api.OK {
				t.Fatalf("Submit(%q) = %+v", text, answer)
			}
		}
		if got := told(w.s); !slices.Equal(got, before) {
			t.Errorf("refused batches changed %v to %v", before, got)
		}
		w.tick(t, 1)
	}
}
