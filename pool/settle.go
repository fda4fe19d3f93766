package pool

import (
	"batch/api"
	"batch/value"
)

// Settle decides, at the time now, which jobs may run, and when.
func (p *Pool) Settle() {
	p.giveUp()
	p.moveUp()
	p.queueUp()
	p.begin()
}

// giveUp ends the jobs that may not run any more. Others may wait for these,
// and may stand ahead of them: so it is done until a round ends none.
func (p *Pool) giveUp() {
	again := true
	for again {
		again = false
		for i := range p.jobs {
			if p.isHeld(i, api.False) {
				p.end(i, api.Never)
				again = true
			}
		}
	}
}

// isHeld tells whether a job is Held and has this value.
func (p *Pool) isHeld(id, wanted int) bool {
	if p.jobs[id].status.State != api.Held {
		return false
	}
	states := p.states()
	got, _ := value.Run(p.jobs[id].code, states)
	return got == wanted
}

func (p *Pool) states() []int {
	var states []int
	for _, j := range p.jobs {
		states = append(states, j.status.State)
	}
	return states
}

// moveUp lets the queued jobs begin earlier where they can. One that moves may
// leave room to one ahead of it in the queue: so it is done until none moves.
func (p *Pool) moveUp() {
	again := true
	for again {
		again = p.moveEach()
	}
}

// moveEach tells whether a job has moved. A queued job fits where it is; so its
// start can only become earlier, and there is a last time that one does.
func (p *Pool) moveEach() bool {
	moved := false
	for _, id := range p.queue {
		start := p.earliest(id)
		if start < p.jobs[id].status.Start {
			p.jobs[id].status.Start = start
			moved = true
		}
	}
	return moved
}

// queueUp queues the jobs that may run.
func (p *Pool) queueUp() {
	for i := range p.jobs {
		if p.isHeld(i, api.True) {
			start := p.earliest(i)
			p.jobs[i].status.State = api.Queued
			p.jobs[i].status.Start = start
			p.queue = append(p.queue, i)
		}
	}
}

// begin lets the queued jobs run whose start is now.
func (p *Pool) begin() {
	var rest []int
	for _, id := range p.queue {
		if p.jobs[id].status.Start == p.now {
			p.jobs[id].status.State = api.Running
		} else {
			rest = append(rest, id)
		}
	}
	p.queue = rest
}
