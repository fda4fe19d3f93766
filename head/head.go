// Package head reads the text of a batch into its heads.
package head

import "batch/api"

// Head is what a head says, with the steps of its WANT (none, if it has no
// WANT), and with the places in the text at which an error of it is told: the
// first bytes of its NAME, of its two numbers, and of the lower number of its
// array.
type Head struct {
	Job     api.Job
	Want    []Step
	NameAt  int
	NodesAt int
	TimeAt  int
	ArrayAt int
}

// Read tells the heads of a batch in their order, or an error and its place.
func Read(text string) ([]Head, api.Errno, int) {
	if len(text) > api.MaxText {
		return nil, api.ErrLong, 0
	}
	r := reader{text: text}
	heads := r.heads()
	if r.failed {
		return nil, api.ErrSyntax, r.at
	}
	at, found := beyondLimit(heads)
	if found {
		return nil, api.ErrLimit, at
	}
	at, found = namedTwice(heads)
	if found {
		return nil, api.ErrTwice, at
	}
	return heads, api.OK, 0
}

// heads goes through the whole text, line by line.
func (r *reader) heads() []Head {
	var list []Head
	more := true
	for more {
		if r.seesHead() {
			next := r.head()
			list = append(list, next)
		} else {
			r.command()
		}
		more = r.skip('\n')
	}
	if r.at < len(r.text) || len(list) == 0 {
		r.failed = true
	}
	return list
}

func (r *reader) seesHead() bool {
	rest := r.text[r.at:]
	return len(rest) >= 2 && rest[0] == '#' && rest[1] == 'J'
}

// command passes the rest of a line that is not looked at.
func (r *reader) command() {
	for r.at < len(r.text) && r.text[r.at] != '\n' {
		r.at++
	}
}

func (r *reader) head() Head {
	var h Head
	r.word("#J ")
	h.NameAt = r.at
	h.Job.Name = r.name()
	r.word(" nodes=")
	h.NodesAt = r.at
	h.Job.Nodes = r.number()
	r.word(" time=")
	h.TimeAt = r.at
	h.Job.Time = r.number()
	r.options(&h)
	return h
}

// options passes what may stand behind the time. Array and after begin alike,
// so which one is meant shows only at their second letter.
func (r *reader) options(h *Head) {
	if !r.skip(' ') {
		return
	}
	r.word("a")
	if r.peek() == 'r' {
		r.word("rray=")
		r.array(h)
		if !r.skip(' ') {
			return
		}
		r.word("a")
	}
	r.word("fter=")
	r.steps = nil
	after := r.want(0)
	h.Job.After = after.text
	h.Want = r.steps
}

func (r *reader) array(h *Head) {
	h.Job.Array = true
	h.ArrayAt = r.at
	h.Job.Lo = r.number()
	r.word("-")
	h.Job.Hi = r.number()
}

// beyondLimit tells the place of the first number that may not be.
func beyondLimit(heads []Head) (int, bool) {
	for _, h := range heads {
		j := h.Job
		if j.Nodes < 1 || j.Nodes > api.MaxNodes {
			return h.NodesAt, true
		}
		if j.Time < 1 || j.Time > api.MaxTime {
			return h.TimeAt, true
		}
		if j.Array && (j.Lo > j.Hi || j.Hi-j.Lo >= api.MaxArray) {
			return h.ArrayAt, true
		}
	}
	return 0, false
}

// namedTwice tells the place of the first NAME that an earlier head has.
func namedTwice(heads []Head) (int, bool) {
	for i := range heads {
		for k := 0; k < i; k++ {
			if heads[k].Job.Name == heads[i].Job.Name {
				return heads[i].NameAt, true
			}
		}
	}
	return 0, false
}
