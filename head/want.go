package head

import "batch/api"

// plain is the plain form of a part of a WANT, without brackets around the
// whole, and the number of its TERMs, by which it is known whether it needs
// brackets where it stands.
type plain struct {
	text  string
	terms int
}

// want passes a WANT that stands in depth pairs of brackets.
func (r *reader) want(depth int) plain {
	all := r.term(depth)
	for r.skip('|') {
		next := r.term(depth)
		all.text += "|" + next.text
		all.terms += next.terms
	}
	return all
}

// term hands the only FACTOR on as it is, because brackets around it fall
// away whatever they hold: its TERMs are then TERMs of the WANT around it.
func (r *reader) term(depth int) plain {
	first := r.factor(depth)
	if r.peek() != '&' {
		return first
	}
	text := asFactor(first)
	for r.skip('&') {
		next := r.factor(depth)
		text += "&" + asFactor(next)
	}
	return plain{text, 1}
}

// asFactor writes p as one FACTOR of several: only there, and only around
// several TERMs, do brackets stay.
func asFactor(p plain) string {
	if p.terms > 1 {
		return "(" + p.text + ")"
	}
	return p.text
}

func (r *reader) factor(depth int) plain {
	from := r.at
	switch r.peek() {
	case '(':
		return r.brackets(depth)
	case 's':
		r.word("single")
	case 'o':
		r.word("ok:")
		r.ref()
	case 'a':
		r.word("any:")
		r.ref()
	case 'n':
		r.word("not:")
		r.ref()
	default:
		r.failed = true
	}
	return plain{r.text[from:r.at], 1}
}

func (r *reader) brackets(depth int) plain {
	if depth >= api.MaxDepth {
		r.failed = true
		return plain{"", 1}
	}
	r.word("(")
	inner := r.want(depth + 1)
	r.word(")")
	return inner
}

func (r *reader) ref() {
	r.name()
	if r.skip('[') {
		r.number()
		r.word("]")
	}
}
