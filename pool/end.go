package pool

import "batch/api"

// Finish ends a running job ahead of its time: it is Done or Failed.
func (p *Pool) Finish(id int, ok bool) api.Errno {
	if !p.has(id) {
		return api.ErrJob
	}
	if p.jobs[id].status.State != api.Running {
		return api.ErrState
	}
	if ok {
		p.end(id, api.Done)
	} else {
		p.end(id, api.Failed)
	}
	p.Settle()
	return api.OK
}

// Cancel ends a job that is not at an end. One that began keeps its start.
func (p *Pool) Cancel(id int) api.Errno {
	if !p.has(id) {
		return api.ErrJob
	}
	state := p.jobs[id].status.State
	if state >= api.Done {
		return api.ErrState
	}
	if state == api.Queued {
		p.leave(id)
	}
	p.end(id, api.Cancelled)
	p.Settle()
	return api.OK
}

// leave takes a job that is not to begin any more out of the queue.
func (p *Pool) leave(id int) {
	var rest []int
	for _, other := range p.queue {
		if other != id {
			rest = append(rest, other)
		}
	}
	p.queue = rest
	p.jobs[id].status.Start = -1
}

// end brings a job to an end now.
func (p *Pool) end(id, state int) {
	p.jobs[id].status.State = state
	p.jobs[id].status.End = p.now
}
