// Package batch: jobs that wait for one another, on a pool of nodes: see DOC.md.
package batch

import (
	"batch/api"
	"batch/head"
	"batch/link"
	"batch/pool"
	"batch/value"
)

// System is a pool of nodes with its jobs. It keeps the groups of the batches
// taken, because later ones may name them.
type System struct {
	groups []link.Group
	pool   pool.Pool
}

// Read reads a batch (P3, P4).
func Read(text string) ([]api.Job, api.Errno, int) {
	heads, err, at := head.Read(text)
	if err != api.OK {
		return nil, err, at
	}
	var jobs []api.Job
	for _, h := range heads {
		jobs = append(jobs, h.Job)
	}
	return jobs, api.OK, 0
}

// Exec runs a code over the states of jobs (P5).
func Exec(code string, states []int) (int, api.Errno) {
	return value.Run(code, states)
}

// New makes a system (P6).
func New(nodes int) (*System, api.Errno) {
	if nodes < 1 || nodes > api.MaxNodes {
		return nil, api.ErrArg
	}
	return &System{pool: pool.New(nodes)}, api.OK
}

// Clock tells the time, how many nodes are free, and how many jobs there are (P6).
func (s *System) Clock() (int, int, int) {
	return s.pool.Now(), s.pool.Free(), s.pool.Count()
}

// Submit takes a batch (P7, P8).
func (s *System) Submit(text string) api.Answer {
	heads, err, at := head.Read(text)
	if err != api.OK {
		return api.Answer{Err: err, At: at}
	}
	at, found := tooWide(heads, s.pool.Nodes())
	if found {
		return api.Answer{Err: api.ErrNodes, At: at}
	}
	first := s.pool.Count()
	own := link.Groups(heads, first)
	at, found = link.Missing(s.groups, own, heads)
	if found {
		return api.Answer{Err: api.ErrRef, At: at}
	}
	ring := link.Ring(own, heads)
	if len(ring) > 0 {
		return api.Answer{Err: api.ErrCycle, Cycle: ring}
	}
	count := countJobs(own)
	if first+count > api.MaxJobs {
		return api.Answer{Err: api.ErrFull}
	}
	s.take(own, heads)
	s.pool.Settle()
	return api.Answer{First: first, Count: count}
}

// tooWide tells the place of the first number of nodes that is above nodes.
func tooWide(heads []head.Head, nodes int) (int, bool) {
	for _, h := range heads {
		if h.Job.Nodes > nodes {
			return h.NodesAt, true
		}
	}
	return 0, false
}

func countJobs(groups []link.Group) int {
	count := 0
	for _, g := range groups {
		count += g.Count
	}
	return count
}

// take adds the jobs of a batch. Its groups come last, because to its own jobs
// they are not yet those of a batch before.
func (s *System) take(own []link.Group, heads []head.Head) {
	for i, h := range heads {
		code := link.Code(s.groups, own, h)
		for k := 0; k < own[i].Count; k++ {
			s.pool.Add(code, h.Job.Nodes, h.Job.Time)
		}
	}
	for _, g := range own {
		s.groups = append(s.groups, g)
	}
}

// Code tells by which code a job is decided (P9).
func (s *System) Code(id int) (string, api.Errno) {
	return s.pool.Code(id)
}

// Status tells how a job is (P10).
func (s *System) Status(id int) (api.Status, api.Errno) {
	return s.pool.Status(id)
}

// Queue tells which jobs are queued, in their order (P10).
func (s *System) Queue() []int {
	return s.pool.Queue()
}

// Tick lets time go by (P12).
func (s *System) Tick(n int) api.Errno {
	if n < 1 || n > api.MaxTicks {
		return api.ErrArg
	}
	if s.pool.Now()+n > api.MaxNow {
		return api.ErrTime
	}
	for i := 0; i < n; i++ {
		s.pool.Pass()
	}
	return api.OK
}

// Finish ends a running job (P13).
func (s *System) Finish(id int, ok bool) api.Errno {
	return s.pool.Finish(id, ok)
}

// Cancel ends a job that has not ended (P13).
func (s *System) Cancel(id int) api.Errno {
	return s.pool.Cancel(id)
}
