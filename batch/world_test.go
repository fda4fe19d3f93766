package batch_test

import (
	"fmt"
	"math/rand"
	"slices"
	"testing"

	"batch/api"
)

// world is a system with a model of what becomes of its jobs, by the
// document's words. It lays out who wants how many nodes time by time, and
// works values out on the text of the WANTs.
type world struct {
	pair
	now   int
	jobs  []api.Status
	queue []int
	// told has the last start that was told of each job, -1 if none was
	told []int
}

func newWorld(t *testing.T, nodes int) *world {
	t.Helper()
	w := &world{pair: newPair(t, nodes)}
	w.check(t)
	return w
}

func (w *world) submit(t *testing.T, text string) api.Answer {
	t.Helper()
	answer := w.pair.submit(t, text)
	for id := len(w.jobs); id < w.m.jobs; id++ {
		_, h := w.m.head(id)
		w.jobs = append(w.jobs, api.Status{State: api.Held, Nodes: h.nodes, Time: h.time, Start: -1, End: -1})
		w.told = append(w.told, -1)
	}
	if answer.Err == api.OK {
		w.settle()
	}
	w.check(t)
	return answer
}

func (w *world) mustTake(t *testing.T, heads ...string) {
	t.Helper()
	if answer := w.submit(t, lines(heads...)); answer.Err != api.OK {
		t.Fatalf("Submit(%q) = %+v", heads, answer)
	}
}

func (w *world) tick(t *testing.T, n int) {
	t.Helper()
	want := api.OK
	switch {
	case n < 1 || n > api.MaxTicks:
		want = api.ErrArg
	case w.now+n > api.MaxNow:
		want = api.ErrTime
	default:
		for range n {
			w.pass()
		}
	}
	if err := w.s.Tick(n); err != want {
		t.Errorf("at %d: Tick(%d) = %d, want %d", w.now, n, err, want)
	}
	w.check(t)
}

func (w *world) pass() {
	w.now++
	for id := range w.jobs {
		j := &w.jobs[id]
		if j.State == api.Running && j.Start+j.Time == w.now {
			j.State, j.End = api.Failed, w.now
		}
	}
	w.settle()
}

func (w *world) finish(t *testing.T, id int, ok bool) api.Errno {
	t.Helper()
	want := api.OK
	switch {
	case id < 0 || id >= len(w.jobs):
		want = api.ErrJob
	case w.jobs[id].State != api.Running:
		want = api.ErrState
	case ok:
		w.ended(id, api.Done)
	default:
		w.ended(id, api.Failed)
	}
	err := w.s.Finish(id, ok)
	if err != want {
		t.Errorf("at %d: Finish(%d, %t) = %d, want %d", w.now, id, ok, err, want)
	}
	w.check(t)
	return err
}

func (w *world) cancel(t *testing.T, id int) api.Errno {
	t.Helper()
	want := api.OK
	switch {
	case id < 0 || id >= len(w.jobs):
		want = api.ErrJob
	case slices.Contains([]int{api.Done, api.Failed, api.Cancelled, api.Never}, w.jobs[id].State):
		want = api.ErrState
	default:
		if at := slices.Index(w.queue, id); at >= 0 {
			w.queue = slices.Delete(w.queue, at, at+1)
			w.jobs[id].Start = -1
		}
		w.ended(id, api.Cancelled)
	}
	err := w.s.Cancel(id)
	if err != want {
		t.Errorf("at %d: Cancel(%d) = %d, want %d", w.now, id, err, want)
	}
	w.check(t)
	return err
}

func (w *world) ended(id, state int) {
	w.jobs[id].State, w.jobs[id].End = state, w.now
	w.settle()
}

func (w *world) mustFinish(t *testing.T, id int, ok bool) {
	t.Helper()
	if err := w.finish(t, id, ok); err != api.OK {
		t.Fatalf("at %d: Finish(%d, %t) = %d", w.now, id, ok, err)
	}
}

func (w *world) mustCancel(t *testing.T, id int) {
	t.Helper()
	if err := w.cancel(t, id); err != api.OK {
		t.Fatalf("at %d: Cancel(%d) = %d", w.now, id, err)
	}
}

func (w *world) settle() {
	for {
		id := w.heldWith(api.False, 0)
		if id < 0 {
			break
		}
		w.jobs[id].State, w.jobs[id].End = api.Never, w.now
	}
	for {
		before := slices.Clone(w.jobs)
		for _, id := range w.queue {
			w.jobs[id].Start = w.earliest(id)
		}
		if slices.Equal(before, w.jobs) {
			break
		}
	}
	for id := w.heldWith(api.True, 0); id >= 0; id = w.heldWith(api.True, id) {
		w.jobs[id].Start = w.earliest(id)
		w.jobs[id].State = api.Queued
		w.queue = append(w.queue, id)
		w.told[id] = w.jobs[id].Start
	}
	w.queue = slices.DeleteFunc(w.queue, func(id int) bool {
		if w.jobs[id].Start != w.now {
			return false
		}
		w.jobs[id].State = api.Running
		return true
	})
}

// heldWith tells the first Held job from a number on with this value, or -1.
func (w *world) heldWith(value, from int) int {
	var states []int
	for _, j := range w.jobs {
		states = append(states, j.State)
	}
	for id := from; id < len(w.jobs); id++ {
		if states[id] == api.Held && w.m.value(id, states) == value {
			return id
		}
	}
	return -1
}

// wanted tells for each time how many nodes the running and queued jobs want,
// but for one.
func wanted(jobs []api.Status, but int) []int {
	sums := make([]int, api.MaxNow+api.MaxJobs*api.MaxTime*2)
	for id, j := range jobs {
		if id != but && (j.State == api.Running || j.State == api.Queued) {
			for m := j.Start; m < j.Start+j.Time; m++ {
				sums[m] += j.Nodes
			}
		}
	}
	return sums
}

func (w *world) earliest(id int) int {
	sums := wanted(w.jobs, id)
	for t := w.now; ; t++ {
		if slices.Max(sums[t:t+w.jobs[id].Time])+w.jobs[id].Nodes <= w.m.nodes {
			return t
		}
	}
}

// check compares all that a system tells with the model, and looks at what
// must come of it at any time (P14).
func (w *world) check(t *testing.T) {
	t.Helper()
	free := w.m.nodes
	for id := -2; id < len(w.jobs)+3; id++ {
		want, wantErr := api.Status{}, api.ErrJob
		if id >= 0 && id < len(w.jobs) {
			want, wantErr = w.jobs[id], api.OK
			if want.State == api.Running {
				free -= want.Nodes
			}
		}
		if got, err := w.s.Status(id); got != want || err != wantErr {
			t.Errorf("at %d: Status(%d) = %+v, %d, want %+v, %d", w.now, id, got, err, want, wantErr)
		}
	}
	if free < 0 {
		t.Errorf("at %d: %d nodes are free", w.now, free)
	}
	if now, nodes, jobs := w.s.Clock(); now != w.now || nodes != free || jobs != len(w.jobs) {
		t.Errorf("Clock() = %d, %d, %d, want %d, %d, %d", now, nodes, jobs, w.now, free, len(w.jobs))
	}
	if queue := w.s.Queue(); !slices.Equal(queue, w.queue) {
		t.Errorf("at %d: Queue() = %v, want %v", w.now, queue, w.queue)
	}
	w.checkStarts(t)
}

func (w *world) checkStarts(t *testing.T) {
	t.Helper()
	for id := range w.jobs {
		got, _ := w.s.Status(id)
		if got.Start > w.told[id] {
			t.Errorf("at %d: job %d is made later than %d: %+v", w.now, id, w.told[id], got)
		}
		if got.State == api.Queued {
			w.told[id] = got.Start
		}
		if got.State == api.Queued && got.Start != w.earliest(id) {
			t.Errorf("at %d: job %d fits at %d: %+v", w.now, id, w.earliest(id), got)
		}
	}
}

// is compares a job with what a test names, as the model might err too.
func (w *world) is(t *testing.T, id, state, start, end int) {
	t.Helper()
	got, err := w.s.Status(id)
	if got.State != state || got.Start != start || got.End != end || err != api.OK {
		t.Errorf("at %d: Status(%d) = %+v, %d, want state %d, start %d, end %d", w.now, id, got, err, state, start, end)
	}
}

func (w *world) queued(t *testing.T, ids ...int) {
	t.Helper()
	if got := w.s.Queue(); !slices.Equal(got, ids) {
		t.Errorf("at %d: Queue() = %v, want %v", w.now, got, ids)
	}
}

func (w *world) clock(t *testing.T, now, free, jobs int) {
	t.Helper()
	a, b, c := w.s.Clock()
	if a != now || b != free || c != jobs {
		t.Errorf("Clock() = %d, %d, %d, want %d, %d, %d", a, b, c, now, free, jobs)
	}
}

// wide writes a head.
func wide(name string, nodes, time int, more string) string {
	return fmt.Sprintf("#J %s nodes=%d time=%d%s", name, nodes, time, more)
}

// rest tells the sum of the Time of all jobs that are not at an end.
func (w *world) rest() int {
	sum := 0
	for _, j := range w.jobs {
		if j.State < api.Done {
			sum += j.Time
		}
	}
	return sum
}

// runOut checks that all jobs end in time.
func (w *world) runOut(t *testing.T) {
	t.Helper()
	for n := w.rest(); n > 0; n -= min(n, api.MaxTicks) {
		w.tick(t, min(n, api.MaxTicks))
	}
	for id := range w.jobs {
		if got, _ := w.s.Status(id); got.State < api.Done {
			t.Errorf("at %d: job %d is not at an end: %+v", w.now, id, got)
		}
	}
}

// startsAre compares the starts of all jobs with what a test names.
func (w *world) startsAre(t *testing.T, starts ...int) {
	t.Helper()
	var got []int
	for id := range w.jobs {
		status, _ := w.s.Status(id)
		got = append(got, status.Start)
	}
	if !slices.Equal(got, starts) {
		t.Errorf("at %d: starts %v, want %v", w.now, got, starts)
	}
}

func TestP11P12ManyWorlds(t *testing.T) {
	rng := rand.New(rand.NewSource(3))
	seen := make([]int, 7)
	longest := 0
	for range 1000 {
		w := newWorld(t, 3+rng.Intn(6))
		for range 24 {
			if rng.Intn(3) > 0 {
				w.submit(t, randomBatch(rng))
			} else {
				w.tick(t, 1+min(rng.Intn(12), rng.Intn(12)))
			}
			for _, j := range w.jobs {
				seen[j.State]++
			}
			longest = max(longest, len(w.queue))
		}
		w.runOut(t)
		if t.Failed() {
			return
		}
	}
	for _, state := range []int{api.Held, api.Queued, api.Running, api.Failed, api.Never} {
		if seen[state] < 2000 {
			t.Errorf("state %d only %d times", state, seen[state])
		}
	}
	if longest < 10 {
		t.Errorf("at most %d jobs in a queue", longest)
	}
}

// someJob tells a number of a job, mostly of one that is not at an end, and
// now and then of none.
func (w *world) someJob(rng *rand.Rand) int {
	id := 0
	for range 4 {
		id = rng.Intn(len(w.jobs)+3) - 1
		if id >= 0 && id < len(w.jobs) && w.jobs[id].State < api.Done {
			return id
		}
	}
	return id
}

// endSome finishes or cancels a job.
func (w *world) endSome(t *testing.T, rng *rand.Rand) api.Errno {
	t.Helper()
	if rng.Intn(3) == 0 {
		return w.cancel(t, w.someJob(rng))
	}
	return w.finish(t, w.someJob(rng), rng.Intn(3) > 0)
}

func TestP11P13ManyWorlds(t *testing.T) {
	rng := rand.New(rand.NewSource(4))
	states := make([]int, 7)
	errs := map[api.Errno]int{}
	earlier := 0
	for range 1000 {
		w := newWorld(t, 3+rng.Intn(6))
		for range 40 {
			before := slices.Clone(w.jobs)
			switch rng.Intn(5) {
			case 0, 1:
				w.submit(t, randomBatch(rng))
			case 2:
				w.tick(t, 1+min(rng.Intn(6), rng.Intn(6)))
			default:
				errs[w.endSome(t, rng)]++
			}
			for id, j := range w.jobs {
				states[j.State]++
				if id < len(before) && j.Start >= 0 && j.Start < before[id].Start {
					earlier++
				}
			}
		}
		w.runOut(t)
		if t.Failed() {
			return
		}
	}
	for state, n := range states {
		if n < 2000 {
			t.Errorf("state %d only %d times", state, n)
		}
	}
	for _, err := range []api.Errno{api.OK, api.ErrJob, api.ErrState} {
		if errs[err] < 1000 {
			t.Errorf("error %d only %d times", err, errs[err])
		}
	}
	if earlier < 1000 {
		t.Errorf("only %d times a queued job moved up", earlier)
	}
}

// Whatever is finished or cancelled meanwhile, all jobs are at an end after
// the sum of the times that they had at first.
func TestP14AllEndWhateverIsEnded(t *testing.T) {
	rng := rand.New(rand.NewSource(6))
	ended := 0
	for range 600 {
		w := newWorld(t, 5+rng.Intn(4))
		for range 30 {
			w.submit(t, randomBatch(rng))
		}
		often := 1 + rng.Intn(12)
		for range w.rest() {
			if rng.Intn(often) == 0 && w.endSome(t, rng) == api.OK {
				ended++
			}
			w.tick(t, 1)
		}
		for id := range w.jobs {
			if got, _ := w.s.Status(id); got.State < api.Done {
				t.Errorf("at %d: job %d is not at an end: %+v", w.now, id, got)
			}
		}
		if t.Failed() {
			return
		}
	}
	if ended < 1000 {
		t.Errorf("only %d jobs were ended", ended)
	}
}
