package batch_test

import (
	"math"
	"slices"
	"testing"

	"batch/api"
)

func TestP13Examples(t *testing.T) {
	w := newWorld(t, 4)
	w.mustTake(t, wide("a", 3, 4, ""), wide("b", 2, 5, ""), wide("c", 1, 3, ""))
	w.tick(t, 1)
	w.mustFinish(t, 0, true)
	w.is(t, 0, api.Done, 0, 1)
	w.is(t, 1, api.Running, 1, -1)
	w.clock(t, 1, 1, 3)
	w.mustTake(t, wide("d", 4, 2, " after=not:a"))
	w.is(t, 3, api.Never, -1, 1)
	w.mustTake(t, wide("d", 4, 2, " after=any:c&(ok:b|not:b)"))
	w.is(t, 4, api.Held, -1, -1)
	w.tick(t, 2)
	w.is(t, 2, api.Failed, 0, 3)
	w.is(t, 4, api.Held, -1, -1)
	w.tick(t, 3)
	w.is(t, 1, api.Failed, 1, 6)
	w.is(t, 4, api.Running, 6, -1)

	w = newWorld(t, 4)
	for range 3 {
		w.mustTake(t, wide("a", 1, 2, " after=single"))
	}
	w.tick(t, 2)
	w.is(t, 1, api.Running, 2, -1)
	w.mustCancel(t, 1)
	w.is(t, 1, api.Cancelled, 2, 2)
	w.is(t, 2, api.Running, 2, -1)
}

// refuse checks that calls on jobs answer an error and change nothing; where
// OK stands for the error, that call is not made.
func (w *world) refuse(t *testing.T, finish, cancel api.Errno, ids ...int) {
	t.Helper()
	before := told(w.s)
	for _, id := range ids {
		for _, ok := range []bool{true, false} {
			if finish == api.OK {
				break
			}
			if err := w.s.Finish(id, ok); err != finish {
				t.Errorf("at %d: Finish(%d, %t) = %d, want %d", w.now, id, ok, err, finish)
			}
		}
		if cancel != api.OK {
			if err := w.s.Cancel(id); err != cancel {
				t.Errorf("at %d: Cancel(%d) = %d, want %d", w.now, id, err, cancel)
			}
		}
		if got := told(w.s); !slices.Equal(got, before) {
			t.Fatalf("at %d: refused calls on job %d changed %v to %v", w.now, id, before, got)
		}
	}
}

// noJobs tells numbers of jobs that a system of so many jobs has not.
func noJobs(jobs int) []int {
	return []int{-1, -2, -jobs - 1, jobs, jobs + 1, api.MaxJobs, api.MaxJobs + 1, 255, 256, 1 << 32, -1 << 32, math.MinInt, math.MaxInt}
}

func TestP13JobNumbers(t *testing.T) {
	w := newWorld(t, 8)
	w.refuse(t, api.ErrJob, api.ErrJob, noJobs(0)...)
	for jobs := 1; jobs <= api.MaxJobs; jobs++ {
		w.mustTake(t, wide("a", 1, 9, ""))
		w.refuse(t, api.ErrJob, api.ErrJob, noJobs(jobs)...)
	}
	w.mustFinish(t, 0, true)
	w.is(t, 0, api.Done, 0, 0)
	w.mustCancel(t, api.MaxJobs-1)
	w.is(t, api.MaxJobs-1, api.Cancelled, -1, 0)

	w = newWorld(t, 8)
	w.mustTake(t, wide("a", 1, 9, ""))
	w.mustCancel(t, 0)
	w.is(t, 0, api.Cancelled, 0, 0)
	w.mustTake(t, wide("a", 1, 9, " array=1-2"))
	w.mustFinish(t, 2, false)
	w.is(t, 1, api.Running, 0, -1)
	w.is(t, 2, api.Failed, 0, 0)
}

// A job that there is not is told ahead of its state, also where no job is
// Running any more, and where all are at an end.
func TestP1WhichErrorOfEnds(t *testing.T) {
	w := newWorld(t, 1)
	w.mustTake(t, wide("a", 1, 3, ""), wide("b", 1, 2, " after=ok:a"), wide("c", 1, 2, ""))
	w.refuse(t, api.ErrState, api.OK, 1, 2)
	w.refuse(t, api.ErrJob, api.ErrJob, noJobs(3)...)
	w.mustCancel(t, 2)
	w.mustCancel(t, 0)
	w.refuse(t, api.ErrState, api.ErrState, 0, 1, 2)
	w.refuse(t, api.ErrJob, api.ErrJob, noJobs(3)...)
}

// allKinds makes a system at time 1: job 0 is Done, 1 Failed, 2 Cancelled after
// it began, 3 Never, 4 Running, 5 Queued, 6 Held, 7 Cancelled in the queue.
func allKinds(t *testing.T) *world {
	t.Helper()
	w := newWorld(t, 2)
	w.mustTake(t, wide("done", 1, 9, ""), wide("failed", 1, 9, ""), wide("cut", 2, 9, ""), wide("never", 1, 1, " after=ok:failed"))
	w.mustFinish(t, 0, true)
	w.mustFinish(t, 1, false)
	w.is(t, 2, api.Running, 0, -1)
	w.mustCancel(t, 2)
	w.mustTake(t, wide("run", 2, 9, ""), wide("queue", 1, 3, ""), wide("held", 1, 1, " after=ok:queue"), wide("gone", 1, 1, ""))
	w.is(t, 7, api.Queued, 9, -1)
	w.mustCancel(t, 7)
	w.tick(t, 1)
	for id, want := range [][3]int{{api.Done, 0, 0}, {api.Failed, 0, 0}, {api.Cancelled, 0, 0}, {api.Never, -1, 0},
		{api.Running, 0, -1}, {api.Queued, 9, -1}, {api.Held, -1, -1}, {api.Cancelled, -1, 0}} {
		w.is(t, id, want[0], want[1], want[2])
	}
	return w
}

func TestP13States(t *testing.T) {
	w := allKinds(t)
	w.refuse(t, api.ErrState, api.ErrState, 0, 1, 2, 3, 7)
	w.refuse(t, api.ErrState, api.OK, 5, 6)
	w.refuse(t, api.ErrJob, api.ErrJob, noJobs(8)...)
	w.mustFinish(t, 4, true)
	w.is(t, 4, api.Done, 0, 1)
	w.is(t, 5, api.Running, 1, -1)
	w.refuse(t, api.ErrState, api.ErrState, 0, 1, 2, 3, 4, 7)

	w = allKinds(t)
	w.mustFinish(t, 4, false)
	w.is(t, 4, api.Failed, 0, 1)
	w.is(t, 5, api.Running, 1, -1)
	w.refuse(t, api.ErrState, api.ErrState, 0, 1, 2, 3, 4, 7)

	w = allKinds(t)
	w.mustCancel(t, 4)
	w.is(t, 4, api.Cancelled, 0, 1)
	w.is(t, 5, api.Running, 1, -1)
	w.refuse(t, api.ErrState, api.ErrState, 0, 1, 2, 3, 4, 7)

	w = allKinds(t)
	w.mustCancel(t, 5)
	w.is(t, 4, api.Running, 0, -1)
	w.is(t, 5, api.Cancelled, -1, 1)
	w.is(t, 6, api.Never, -1, 1)
	w.refuse(t, api.ErrState, api.ErrState, 0, 1, 2, 3, 5, 6, 7)

	w = allKinds(t)
	w.mustCancel(t, 6)
	w.is(t, 4, api.Running, 0, -1)
	w.is(t, 5, api.Queued, 9, -1)
	w.is(t, 6, api.Cancelled, -1, 1)
	w.refuse(t, api.ErrState, api.ErrState, 0, 1, 2, 3, 6, 7)
}

// A job that was ended stays as it was when its time is over, or when it was
// to begin; and a job whose time is over is not Running any more.
func TestP13EndsStay(t *testing.T) {
	w := newWorld(t, 4)
	w.mustTake(t, wide("a", 1, 4, ""), wide("b", 1, 4, ""), wide("c", 1, 4, ""), wide("d", 1, 4, ""), wide("e", 4, 2, ""), wide("f", 4, 1, " after=ok:e"), wide("g", 4, 2, ""))
	w.startsAre(t, 0, 0, 0, 0, 4, -1, 6)
	w.tick(t, 1)
	w.mustFinish(t, 0, true)
	w.tick(t, 1)
	w.mustFinish(t, 1, false)
	w.mustCancel(t, 4)
	w.tick(t, 1)
	w.mustCancel(t, 2)
	w.is(t, 6, api.Queued, 4, -1)
	for range 5 {
		w.tick(t, 1)
		w.is(t, 0, api.Done, 0, 1)
		w.is(t, 1, api.Failed, 0, 2)
		w.is(t, 2, api.Cancelled, 0, 3)
		w.is(t, 3, api.Failed, 0, 4)
		w.is(t, 4, api.Cancelled, -1, 2)
		w.is(t, 5, api.Never, -1, 2)
		w.refuse(t, api.ErrState, api.ErrState, 0, 1, 2, 3, 4, 5)
	}
	w.is(t, 6, api.Failed, 4, 6)
	w.clock(t, 8, 4, 7)
}

func TestP13CancelQueued(t *testing.T) {
	w := newWorld(t, 1)
	w.mustTake(t, wide("r", 1, 5, ""), wide("a", 1, 2, " array=1-4"))
	w.startsAre(t, 0, 5, 7, 9, 11)
	w.tick(t, 1)
	w.mustCancel(t, 2)
	w.startsAre(t, 0, 5, -1, 7, 9)
	w.queued(t, 1, 3, 4)
	w.mustCancel(t, 1)
	w.startsAre(t, 0, -1, -1, 5, 7)
	w.queued(t, 3, 4)
	w.mustCancel(t, 4)
	w.startsAre(t, 0, -1, -1, 5, -1)
	w.queued(t, 3)
	w.mustTake(t, wide("b", 1, 3, ""))
	w.is(t, 5, api.Queued, 7, -1)
	w.mustCancel(t, 3)
	w.queued(t, 5)
	w.is(t, 5, api.Queued, 5, -1)
	w.mustCancel(t, 5)
	w.queued(t)
	w.is(t, 0, api.Running, 0, -1)
	w.clock(t, 1, 0, 6)
	for id := 1; id <= 5; id++ {
		w.is(t, id, api.Cancelled, -1, 1)
	}
}

// A queued job that is cancelled leaves room to one ahead of it in the queue
// that is to begin later.
func TestP13CancelQueuedBehind(t *testing.T) {
	w := newWorld(t, 3)
	w.mustTake(t, wide("a", 1, 6, ""), wide("b", 2, 2, ""), wide("c", 3, 1, ""), wide("d", 2, 4, ""))
	w.startsAre(t, 0, 0, 6, 2)
	w.mustFinish(t, 0, true)
	w.startsAre(t, 0, 0, 6, 2)
	w.queued(t, 2, 3)
	w.mustCancel(t, 3)
	w.startsAre(t, 0, 0, 2, -1)
	w.queued(t, 2)
}

func TestP11EndsMoveUp(t *testing.T) {
	for _, c := range []struct {
		what          string
		nodes         int
		jobs          [][2]int
		ended         int
		before, after []int
	}{
		{"one after the other", 1, [][2]int{{1, 5}, {1, 2}, {1, 3}, {1, 1}}, 0, []int{0, 5, 7, 10}, []int{0, 0, 2, 5}},
		{"the first of the queue goes ahead of one that was to begin earlier", 3, [][2]int{{2, 3}, {2, 5}, {1, 1}, {1, 4}}, 0, []int{0, 3, 0, 1}, []int{0, 0, 0, 1}},
		{"too few nodes are left", 4, [][2]int{{1, 3}, {3, 9}, {2, 2}}, 0, []int{0, 0, 9}, []int{0, 0, 9}},
		{"a later one takes room in which the first does not fit", 4, [][2]int{{1, 3}, {3, 9}, {2, 2}, {1, 9}}, 0, []int{0, 0, 9, 3}, []int{0, 0, 9, 0}},
		{"a second round moves the first one", 2, [][2]int{{1, 6}, {1, 2}, {2, 1}, {1, 4}}, 0, []int{0, 0, 6, 2}, []int{0, 0, 4, 0}},
		{"only a third round moves the last one", 3, [][2]int{{3, 4}, {1, 4}, {1, 5}, {3, 5}, {2, 1}, {1, 1}}, 0, []int{0, 4, 4, 9, 8, 4}, []int{0, 0, 0, 5, 4, 0}},
	} {
		for call := range 3 {
			w := newWorld(t, c.nodes)
			for _, j := range c.jobs {
				w.mustTake(t, wide("a", j[0], j[1], ""))
			}
			w.startsAre(t, c.before...)
			switch call {
			case 0:
				w.mustFinish(t, c.ended, true)
			case 1:
				w.mustFinish(t, c.ended, false)
			case 2:
				w.mustCancel(t, c.ended)
			}
			w.startsAre(t, c.after...)
			for id := range c.jobs {
				got, _ := w.s.Status(id)
				if id != c.ended && (got.State == api.Running) != (got.Start == 0) {
					t.Errorf("%s: job %d: %+v", c.what, id, got)
				}
			}
			w.runOut(t)
			if t.Failed() {
				t.Fatalf("%s, call %d", c.what, call)
			}
		}
	}
}

// Queued jobs move up ahead of those that come to the queue by the same end.
func TestP11QueuedAheadOfHeld(t *testing.T) {
	for _, ok := range []bool{true, false} {
		w := newWorld(t, 1)
		w.mustTake(t, wide("h", 1, 2, " after=any:a"), wide("a", 1, 9, ""), wide("q", 1, 3, ""), wide("p", 1, 3, ""))
		w.startsAre(t, -1, 0, 9, 12)
		w.tick(t, 2)
		w.mustFinish(t, 1, ok)
		w.startsAre(t, 8, 0, 2, 5)
		w.queued(t, 3, 0)
	}
}

// What becomes of those that wait for a job, by its end, and by what it was.
func TestP11WaitsForEnds(t *testing.T) {
	running, queued, held := wide("x", 1, 9, ""), wide("x", 8, 9, ""), wide("x", 1, 9, " after=any:b")
	finishOk := func(w *world) { w.mustFinish(t, 1, true) }
	finishNot := func(w *world) { w.mustFinish(t, 1, false) }
	cancel := func(w *world) { w.mustCancel(t, 1) }
	for _, c := range []struct {
		what     string
		x        string
		state    int
		call     func(*world)
		ok, fail int
	}{
		{"Done", running, api.Running, finishOk, api.Running, api.Never},
		{"Failed", running, api.Running, finishNot, api.Never, api.Running},
		{"Cancelled, was Running", running, api.Running, cancel, api.Never, api.Running},
		{"Cancelled, was Queued", queued, api.Queued, cancel, api.Never, api.Running},
		{"Cancelled, was Held", held, api.Held, cancel, api.Never, api.Running},
	} {
		w := newWorld(t, 8)
		w.mustTake(t, wide("b", 1, 12, ""), c.x, wide("n", 1, 9, " after=any:o&any:f"), wide("o", 1, 9, " after=ok:x"), wide("f", 1, 9, " after=not:x"), wide("a", 1, 9, " after=any:x"))
		w.mustTake(t, wide("x", 1, 9, " after=single"))
		w.tick(t, 3)
		if got, _ := w.s.Status(1); got.State != c.state {
			t.Fatalf("%s: %+v", c.what, got)
		}
		c.call(w)
		for id, want := range []int{2: api.Never, 3: c.ok, 4: c.fail, 5: api.Running, 6: api.Running} {
			if got, _ := w.s.Status(id); id >= 2 && got.State != want {
				t.Errorf("%s: job %d: %+v, want state %d", c.what, id, got, want)
			}
		}
		w.is(t, 2, api.Never, -1, 3)
		w.is(t, 5, api.Running, 3, -1)
		w.runOut(t)
	}
}

// A chain as long as there are jobs, each of which waits for one behind it:
// one end decides all of them at once.
func TestP11LongChainByEnds(t *testing.T) {
	chain := func(last string) *world {
		w := newWorld(t, 1)
		var heads []string
		for i := range 16 {
			heads = append(heads, line(string(rune('a'+i)), " after=ok:"+string(rune('b'+i))))
		}
		w.mustTake(t, append(heads, last)...)
		w.tick(t, 1)
		return w
	}
	w := chain(wide("q", 1, 9, ""))
	w.mustFinish(t, 16, false)
	w.is(t, 16, api.Failed, 0, 1)
	for id := range 16 {
		w.is(t, id, api.Never, -1, 1)
	}
	w = chain(wide("q", 1, 9, ""))
	w.mustCancel(t, 9)
	w.is(t, 9, api.Cancelled, -1, 1)
	for id := range 9 {
		w.is(t, id, api.Never, -1, 1)
	}
	for id := 10; id < 16; id++ {
		w.is(t, id, api.Held, -1, -1)
	}
	w.is(t, 16, api.Running, 0, -1)
	for id := 16; id > 10; id-- {
		w.mustFinish(t, id, true)
		w.is(t, id-1, api.Running, 1, -1)
	}
	w.mustFinish(t, 10, true)
	w.is(t, 9, api.Cancelled, -1, 1)
}

func TestP11SingleByEnds(t *testing.T) {
	w := newWorld(t, 3)
	w.mustTake(t, wide("a", 1, 9, " array=1-3"))
	w.mustTake(t, wide("a", 1, 9, " after=single"))
	w.mustTake(t, wide("a", 1, 9, " after=single"), wide("b", 1, 1, " after=single&ok:a"))
	w.mustFinish(t, 0, true)
	w.mustFinish(t, 2, false)
	w.is(t, 3, api.Held, -1, -1)
	w.mustCancel(t, 1)
	w.is(t, 3, api.Running, 0, -1)
	w.is(t, 4, api.Held, -1, -1)
	w.mustFinish(t, 3, true)
	w.is(t, 4, api.Running, 0, -1)
	w.mustCancel(t, 4)
	w.is(t, 5, api.Never, -1, 0)

	// one that is cancelled while it is Held lets none ahead of its time
	w = newWorld(t, 3)
	for range 3 {
		w.mustTake(t, wide("a", 1, 9, " after=single"))
	}
	w.mustCancel(t, 1)
	w.is(t, 2, api.Held, -1, -1)
	w.mustFinish(t, 0, false)
	w.is(t, 2, api.Running, 0, -1)

	// a queued one, and one that is Never by another's end, are over too
	w = newWorld(t, 1)
	w.mustTake(t, wide("r", 1, 9, ""), wide("a", 1, 3, ""), wide("n", 1, 1, " after=ok:a"))
	w.mustTake(t, wide("a", 1, 4, " after=single"), wide("n", 1, 1, " after=single"))
	w.startsAre(t, 0, 9, -1, -1, -1)
	w.mustCancel(t, 1)
	w.is(t, 2, api.Never, -1, 0)
	w.startsAre(t, 0, -1, -1, 9, 13)
	w.queued(t, 3, 4)
}

// What comes later waits for jobs as they ended; and these still count.
func TestP7AfterEnds(t *testing.T) {
	w := newWorld(t, 4)
	w.mustTake(t, wide("a", 1, 9, " array=1-3"), wide("b", 4, 9, ""))
	w.mustFinish(t, 0, true)
	w.mustFinish(t, 1, false)
	w.mustCancel(t, 2)
	w.mustCancel(t, 3)
	w.tick(t, 4)
	w.mustTake(t, wide("c", 1, 9, " after=ok:a[1]&not:a[2]&not:a[3]&not:b"), wide("d", 1, 9, " after=ok:a|ok:b"))
	w.mustTake(t, wide("b", 1, 9, " after=single&any:a"))
	w.is(t, 4, api.Running, 4, -1)
	w.is(t, 5, api.Never, -1, 4)
	w.is(t, 6, api.Running, 4, -1)
	for len(w.jobs) < api.MaxJobs {
		w.mustTake(t, wide("e", 1, 1, ""))
		w.mustCancel(t, len(w.jobs)-1)
	}
	if answer := w.submit(t, small); answer.Err != api.ErrFull {
		t.Errorf("Submit to a full system: %+v", answer)
	}
}

// At the last time jobs can be ended, and others begin.
func TestP13LastTime(t *testing.T) {
	w := newWorld(t, 1)
	for range 15 {
		w.tick(t, api.MaxTicks)
	}
	w.mustTake(t, wide("a", 1, 12, " array=1-4"), wide("n", 1, 1, " after=ok:a[2]"))
	w.startsAre(t, 3000, 3012, 3024, 3036, -1)
	w.mustFinish(t, 0, true)
	w.is(t, 0, api.Done, 3000, 3000)
	w.startsAre(t, 3000, 3000, 3012, 3024, -1)
	w.mustCancel(t, 2)
	w.startsAre(t, 3000, 3000, -1, 3012, -1)
	w.mustCancel(t, 1)
	w.is(t, 1, api.Cancelled, 3000, 3000)
	w.is(t, 3, api.Running, 3000, -1)
	w.is(t, 4, api.Never, -1, 3000)
	w.tick(t, 1)
	w.mustFinish(t, 3, false)
	w.clock(t, 3000, 1, 5)
}

// With just the sum of the times left until the last time all jobs are at an
// end then, whether some are ended meanwhile or not.
func TestP14AllEndAtLastTime(t *testing.T) {
	for _, early := range []bool{false, true} {
		w := newWorld(t, 8)
		for range 13 {
			w.tick(t, api.MaxTicks)
		}
		w.tick(t, 112)
		w.mustTake(t, wide("a", 8, 12, " array=1-6"), wide("b", 8, 12, " array=1-6 after=not:a[6]"), wide("c", 8, 12, " array=1-6 after=any:b"), wide("d", 8, 12, " array=1-6 after=any:c"))
		if w.now+w.rest() != api.MaxNow {
			t.Fatalf("at %d: the sum of the times is %d", w.now, w.rest())
		}
		w.tick(t, 11)
		if early {
			w.mustFinish(t, 0, true)
			w.mustCancel(t, 2)
			w.mustCancel(t, 23)
			w.is(t, 1, api.Running, 2723, -1)
		}
		w.tick(t, 188)
		w.tick(t, 88)
		if !early {
			w.is(t, 23, api.Running, 2988, -1)
		}
		w.tick(t, 1)
		w.clock(t, api.MaxNow, 8, 24)
		for id := range 24 {
			if got, _ := w.s.Status(id); got.State < api.Done {
				t.Errorf("job %d is not at an end: %+v", id, got)
			}
		}
	}
}

// What is done to a list that was told changes nothing, and no end changes it.
func TestP2QueueByEnds(t *testing.T) {
	w := newWorld(t, 1)
	w.mustTake(t, wide("a", 1, 2, " array=1-6"), wide("b", 1, 2, " array=1-6"))
	for len(w.queue) > 0 {
		spoilt, list := w.s.Queue(), w.s.Queue()
		kept := slices.Clone(list)
		spoil(spoilt)
		w.mustCancel(t, w.queue[len(w.queue)/2])
		spoil(spoilt)
		w.check(t)
		for id := range w.jobs {
			if w.jobs[id].State == api.Running && len(w.queue)%3 == 0 {
				w.mustFinish(t, id, true)
				break
			}
		}
		if !slices.Equal(list, kept) {
			t.Errorf("a list that was told changed to %v, was %v", list, kept)
		}
		list = append(list, -5)
		w.check(t)
	}
}

func TestP2EndsApart(t *testing.T) {
	text := lines(wide("a", 2, 5, " array=1-4"), wide("b", 1, 3, " after=any:a[1]"), wide("c", 2, 2, " after=ok:a"))
	a, b := newWorld(t, 2), newWorld(t, 2)
	a.mustTake(t, text)
	b.mustTake(t, text)
	both := func() {
		t.Helper()
		a.check(t)
		b.check(t)
	}
	a.mustFinish(t, 0, true)
	both()
	b.mustCancel(t, 3)
	both()
	b.is(t, 0, api.Running, 0, -1)
	a.is(t, 3, api.Queued, 10, -1)
	a.mustCancel(t, 2)
	both()
	b.tick(t, 2)
	b.mustFinish(t, 0, false)
	both()
	a.mustCancel(t, 1)
	both()
	a.runOut(t)
	both()
	b.is(t, 1, api.Running, 2, -1)
	b.runOut(t)
	both()
}

// Ends do not change codes: a code is the same as long as no batch is taken.
func TestP9SameByEnds(t *testing.T) {
	w := newWorld(t, 2)
	w.mustTake(t, wide("a", 1, 5, " array=1-3"), wide("b", 1, 5, " after=ok:a|not:a[2]&single"))
	w.mustTake(t, wide("b", 1, 5, " after=single&any:a"))
	var codes []string
	for id := range w.jobs {
		code, _ := w.s.Code(id)
		codes = append(codes, code)
	}
	same := func() {
		t.Helper()
		for id := range w.jobs {
			if code, err := w.s.Code(id); code != codes[id] || err != api.OK {
				t.Errorf("Code(%d) = %q, %d, was %q", id, code, err, codes[id])
			}
		}
	}
	w.mustFinish(t, 0, true)
	same()
	w.mustCancel(t, 2)
	same()
	w.tick(t, 5)
	same()
	w.mustCancel(t, 4)
	same()
}
