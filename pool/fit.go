package pool

import "batch/api"

// earliest tells the first time from now on at which a job fits. Where all
// others are over it does, since it wants no more nodes than there are.
func (p *Pool) earliest(id int) int {
	last := p.allOver()
	t := p.now
	for t < last && !p.fits(id, t) {
		t++
	}
	return t
}

// allOver tells a time at which no running or queued job has nodes any more.
func (p *Pool) allOver() int {
	last := p.now
	for _, j := range p.jobs {
		if j.hasStart() && j.over() > last {
			last = j.over()
		}
	}
	return last
}

// fits tells whether there are nodes for a job from t on, beside all others.
func (p *Pool) fits(id, t int) bool {
	for m := t; m < t+p.jobs[id].status.Time; m++ {
		if p.wanted(id, m) > p.nodes {
			return false
		}
	}
	return true
}

// wanted tells how many nodes are wanted at a time by a job, if it ran then,
// together with all others.
func (p *Pool) wanted(id, m int) int {
	sum := p.jobs[id].status.Nodes
	for i, j := range p.jobs {
		if i != id && j.hasStart() && j.status.Start <= m && j.over() > m {
			sum += j.status.Nodes
		}
	}
	return sum
}

// hasStart tells whether a job has nodes from its start on, or is to have them.
func (j job) hasStart() bool {
	return j.status.State == api.Running || j.status.State == api.Queued
}
