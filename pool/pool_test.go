package pool

import (
	"math/rand"
	"slices"
	"testing"

	"batch/api"
)

// free is the code of a job that waits for nothing.
const free = "\x00"

func anyOf(id byte) string {
	return string([]byte{api.OpAny, id})
}

func starts(p *Pool) []int {
	var list []int
	for _, j := range p.jobs {
		list = append(list, j.status.Start)
	}
	return list
}

// Where a job ends ahead of its time the queued ones move up (P11).
func TestP11MoveUp(t *testing.T) {
	for _, c := range []struct {
		what          string
		nodes         int
		jobs          [][2]int
		ended         int
		before, after []int
	}{
		{"one after the other", 1, [][2]int{{1, 5}, {1, 2}, {1, 3}, {1, 1}}, 0, []int{0, 5, 7, 10}, []int{0, 0, 2, 5}},
		{"the first of the queue goes ahead of one that was to begin earlier", 3, [][2]int{{2, 3}, {2, 5}, {1, 1}, {1, 4}}, 0, []int{0, 3, 0, 1}, []int{0, 0, 0, 1}},
		{"too few nodes are left", 4, [][2]int{{1, 3}, {3, 9}, {2, 2}}, 0, []int{0, 0, 9}, []int{0, 0, 9}},
		{"a later one takes room in which the first does not fit", 4, [][2]int{{1, 3}, {3, 9}, {2, 2}, {1, 9}}, 0, []int{0, 0, 9, 3}, []int{0, 0, 9, 0}},
		{"one behind it leaves room in a first round", 3, [][2]int{{2, 2}, {1, 4}, {3, 5}, {1, 1}}, 1, []int{0, 0, 4, 2}, []int{0, 0, 2, 0}},
		{"only a third round moves the last one", 3, [][2]int{{3, 4}, {1, 4}, {1, 5}, {3, 5}, {2, 1}, {1, 1}}, 0, []int{0, 4, 4, 9, 8, 4}, []int{0, 0, 0, 5, 4, 0}},
	} {
		p := New(c.nodes)
		for _, j := range c.jobs {
			p.Add(free, j[0], j[1])
		}
		p.Settle()
		if got := starts(&p); !slices.Equal(got, c.before) {
			t.Errorf("%s: starts %v, want %v", c.what, got, c.before)
		}
		p.Finish(c.ended, true)
		if got := starts(&p); !slices.Equal(got, c.after) {
			t.Errorf("%s: then starts %v, want %v", c.what, got, c.after)
		}
		for id, j := range p.jobs {
			queued := slices.Contains(p.Queue(), id)
			if id != c.ended && (j.status.State == api.Running) != (j.status.Start == 0) || (j.status.State == api.Queued) != queued {
				t.Errorf("%s: job %d: %+v, queued %t", c.what, id, j.status, queued)
			}
		}
	}
}

// Queued jobs move up ahead of jobs that come to the queue in the same moment,
// and those move in the order of the queue, not of their numbers.
func TestP11QueuedGoAhead(t *testing.T) {
	p := New(1)
	p.Add(anyOf(1), 1, 1)
	p.Add(free, 1, 1)
	p.Add(free, 1, 3)
	p.Add(free, 1, 3)
	p.Settle()
	p.Pass()
	if got := starts(&p); !slices.Equal(got, []int{7, 0, 1, 4}) || !slices.Equal(p.Queue(), []int{3, 0}) {
		t.Fatalf("starts %v, queue %v", got, p.Queue())
	}
	p.Pass()
	p.Add(anyOf(2), 1, 1)
	p.Settle()
	if got := starts(&p); !slices.Equal(got, []int{7, 0, 1, 4, -1}) {
		t.Fatalf("starts %v", got)
	}
	p.Finish(2, false)
	if got := starts(&p); !slices.Equal(got, []int{5, 0, 1, 2, 6}) || !slices.Equal(p.Queue(), []int{0, 4}) {
		t.Errorf("starts %v, queue %v", got, p.Queue())
	}
}

// moved tells, by the document's words, the starts after the queued jobs of a
// pool have moved up.
func moved(p *Pool) []int {
	list := starts(p)
	for {
		before := slices.Clone(list)
		for _, id := range p.queue {
			list[id] = firstFit(p, list, id)
		}
		if slices.Equal(list, before) {
			return list
		}
	}
}

func firstFit(p *Pool, list []int, id int) int {
	var wanted [1000]int
	for i, j := range p.jobs {
		if i != id && (j.status.State == api.Running || j.status.State == api.Queued) {
			for m := range j.status.Time {
				wanted[list[i]+m] += j.status.Nodes
			}
		}
	}
	for t := p.now; ; t++ {
		if slices.Max(wanted[t:t+p.jobs[id].status.Time])+p.jobs[id].status.Nodes <= p.nodes {
			return t
		}
	}
}

func TestP11P14ManyEnds(t *testing.T) {
	rng := rand.New(rand.NewSource(5))
	changes := 0
	for range 2000 {
		p := New(1 + rng.Intn(api.MaxNodes))
		for p.Count() < api.MaxJobs {
			p.Add(free, 1+rng.Intn(p.Nodes()), 1+rng.Intn(api.MaxTime))
			if rng.Intn(2) == 0 {
				p.Settle()
			}
			if rng.Intn(3) == 0 {
				p.Pass()
			}
			id := rng.Intn(p.Count())
			if p.jobs[id].status.State != api.Running {
				continue
			}
			p.end(id, api.Done)
			before := starts(&p)
			want := moved(&p)
			p.Settle()
			got := starts(&p)
			for i := range got {
				if before[i] >= 0 && got[i] != want[i] {
					t.Fatalf("at %d: job %d was to begin at %d, then at %d, want %d", p.now, i, before[i], got[i], want[i])
				}
				if before[i] >= 0 && got[i] > before[i] {
					t.Fatalf("at %d: job %d is made later: %d, was %d", p.now, i, got[i], before[i])
				}
				if before[i] != got[i] && before[i] >= 0 {
					changes++
				}
			}
			if p.Free() < 0 || !slices.Equal(moved(&p), got) {
				t.Fatalf("at %d: %d free nodes, starts %v, should move to %v", p.now, p.Free(), got, moved(&p))
			}
		}
	}
	if changes < 1000 {
		t.Errorf("only %d starts have changed", changes)
	}
}
