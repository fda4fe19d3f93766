package head

import "batch/api"

// reader goes through a text from the left. Each byte that it passes leaves a
// beginning with which some batch also begins; so at the first byte that it
// cannot pass, at is the place of the error. Having failed it passes nothing
// more, which spares its callers from asking after each step. Of the WANT that
// it is in it gathers the steps.
type reader struct {
	text   string
	at     int
	failed bool
	steps  []Step
}

// peek tells the next byte; 0, which no head has, if there is none to pass.
func (r *reader) peek() byte {
	if r.failed || r.at >= len(r.text) {
		return 0
	}
	return r.text[r.at]
}

// skip passes the byte b if it is the next one.
func (r *reader) skip(b byte) bool {
	if r.failed || r.at >= len(r.text) || r.text[r.at] != b {
		return false
	}
	r.at++
	return true
}

// word passes the bytes of w, or fails at the first that is another.
func (r *reader) word(w string) {
	for i := 0; i < len(w); i++ {
		if !r.skip(w[i]) {
			r.failed = true
			return
		}
	}
}

func (r *reader) name() string {
	from := r.at
	for r.at-from < api.MaxName && isLetter(r.peek()) {
		r.at++
	}
	if r.at == from {
		r.failed = true
	}
	return r.text[from:r.at]
}

func (r *reader) number() int {
	first := r.peek()
	if !isDigit(first) {
		r.failed = true
		return 0
	}
	r.at++
	second := r.peek()
	if first == '0' || !isDigit(second) {
		return int(first - '0')
	}
	r.at++
	return 10*int(first-'0') + int(second-'0')
}

func isLetter(b byte) bool { return b >= 'a' && b <= 'z' }

func isDigit(b byte) bool { return b >= '0' && b <= '9' }
