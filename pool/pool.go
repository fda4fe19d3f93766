// Package pool runs jobs on a pool of nodes, as time goes by.
package pool

import "batch/api"

// Pool is some nodes at a time, with the jobs that want them. Its queue has
// the numbers of the queued jobs.
type Pool struct {
	nodes int
	now   int
	jobs  []job
	queue []int
}

type job struct {
	code   string
	status api.Status
}

// New makes a pool without jobs at time 0.
func New(nodes int) Pool {
	return Pool{nodes: nodes}
}

// Add adds a job, which is Held until the pool settles. It wants no more nodes
// than there are.
func (p *Pool) Add(code string, nodes, time int) {
	status := api.Status{State: api.Held, Nodes: nodes, Time: time, Start: -1, End: -1}
	p.jobs = append(p.jobs, job{code: code, status: status})
}

// Nodes tells how many nodes there are.
func (p *Pool) Nodes() int {
	return p.nodes
}

// Now tells the time.
func (p *Pool) Now() int {
	return p.now
}

// Count tells how many jobs there are.
func (p *Pool) Count() int {
	return len(p.jobs)
}

// has tells whether there is a job of this number.
func (p *Pool) has(id int) bool {
	return id >= 0 && id < len(p.jobs)
}

// Free tells how many nodes no running job has.
func (p *Pool) Free() int {
	free := p.nodes
	for _, j := range p.jobs {
		if j.status.State == api.Running {
			free -= j.status.Nodes
		}
	}
	return free
}

// Code tells by which code a job is decided.
func (p *Pool) Code(id int) (string, api.Errno) {
	if !p.has(id) {
		return "", api.ErrJob
	}
	return p.jobs[id].code, api.OK
}

// Status tells how a job is.
func (p *Pool) Status(id int) (api.Status, api.Errno) {
	if !p.has(id) {
		return api.Status{}, api.ErrJob
	}
	return p.jobs[id].status, api.OK
}

// Queue tells the queued jobs in their order, in a list of its own.
func (p *Pool) Queue() []int {
	var list []int
	for _, id := range p.queue {
		list = append(list, id)
	}
	return list
}

// Pass lets one unit of time go by.
func (p *Pool) Pass() {
	p.now++
	for i, j := range p.jobs {
		if j.status.State == api.Running && j.over() == p.now {
			p.end(i, api.Failed)
		}
	}
	p.Settle()
}

// over tells when a job that has a start has had its time.
func (j job) over() int {
	return j.status.Start + j.status.Time
}
