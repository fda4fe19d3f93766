package value

import "batch/api"

// machine runs a code. That bytes are no code is told ahead of what is wrong
// with the states; so it goes on where a state is lacking, and only counts how
// many the code asks for.
type machine struct {
	stack  []int
	asked  int
	broken bool
}

// Run tells the value that a code leaves, where states[i] is that of job i.
func Run(code string, states []int) (int, api.Errno) {
	if len(code) > api.MaxCode {
		return 0, api.ErrCode
	}
	var m machine
	m.run(code, states)
	if m.broken || len(m.stack) != 1 {
		return 0, api.ErrCode
	}
	if m.asked > len(states) || !areStates(states) {
		return 0, api.ErrArg
	}
	return m.stack[0], api.OK
}

func (m *machine) run(code string, states []int) {
	at := 0
	for at < len(code) && !m.broken {
		op := int(code[at])
		at++
		if !AsksJob(op) {
			m.plain(op)
			continue
		}
		if at >= len(code) {
			m.broken = true
			return
		}
		m.ask(op, int(code[at]), states)
		at++
	}
}

// plain does an operation without a job's number.
func (m *machine) plain(op int) {
	switch op {
	case api.OpTrue:
		m.lay(api.True)
	case api.OpAnd, api.OpOr:
		m.join(op)
	default:
		m.broken = true
	}
}

func (m *machine) ask(op, job int, states []int) {
	if job >= api.MaxJobs {
		m.broken = true
		return
	}
	if job >= m.asked {
		m.asked = job + 1
	}
	if job >= len(states) {
		m.lay(api.Unknown)
		return
	}
	v := OfJob(op, states[job])
	m.lay(v)
}

func (m *machine) lay(v int) {
	if len(m.stack) >= api.MaxStack {
		m.broken = true
		return
	}
	m.stack = append(m.stack, v)
}

func (m *machine) join(op int) {
	left := len(m.stack) - 2
	if left < 0 {
		m.broken = true
		return
	}
	a := m.stack[left]
	b := m.stack[left+1]
	m.stack = m.stack[:left]
	if op == api.OpAnd {
		m.lay(And(a, b))
	} else {
		m.lay(Or(a, b))
	}
}

func areStates(states []int) bool {
	if len(states) > api.MaxJobs {
		return false
	}
	for _, s := range states {
		if s < api.Held || s > api.Never {
			return false
		}
	}
	return true
}
