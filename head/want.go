package head

import "batch/api"

// plain is the plain form of a part of a WANT, without brackets around the
// whole, and the number of its TERMs, by which it is known whether it needs
// brackets where it stands.
type plain struct {
	text  string
	terms int
}

// Step is one step of working out a WANT on a stack of values: a FACTOR lays
// its value there, OpAnd and OpOr join the last two. OpOk, OpAny and OpNot
// have a REF; OpOver stands for single, which has none. Two parts are joined
// as soon as both are there, so the stack is only as high as brackets are deep.
type Step struct {
	Op  int
	Ref Ref
}

// Ref is a REF, with the place of its first byte in the text.
type Ref struct {
	At       int
	Name     string
	Numbered bool
	Number   int
}

// HasRef tells whether the step is a FACTOR with a REF.
func (s Step) HasRef() bool {
	return s.Op == api.OpOk || s.Op == api.OpAny || s.Op == api.OpNot
}

func (r *reader) lay(s Step) {
	r.steps = append(r.steps, s)
}

// want passes a WANT that stands in depth pairs of brackets.
func (r *reader) want(depth int) plain {
	all := r.term(depth)
	for r.skip('|') {
		next := r.term(depth)
		r.lay(Step{Op: api.OpOr})
		all.text += "|" + next.text
		all.terms += next.terms
	}
	return all
}

// term hands the only FACTOR on as it is, because brackets around it fall
// away whatever they hold: its TERMs are then TERMs of the WANT around it.
func (r *reader) term(depth int) plain {
	first := r.factor(depth)
	if r.peek() != '&' {
		return first
	}
	text := asFactor(first)
	for r.skip('&') {
		next := r.factor(depth)
		r.lay(Step{Op: api.OpAnd})
		text += "&" + asFactor(next)
	}
	return plain{text, 1}
}

// asFactor writes p as one FACTOR of several: only there, and only around
// several TERMs, do brackets stay.
func asFactor(p plain) string {
	if p.terms > 1 {
		return "(" + p.text + ")"
	}
	return p.text
}

func (r *reader) factor(depth int) plain {
	from := r.at
	switch r.peek() {
	case '(':
		return r.brackets(depth)
	case 's':
		r.word("single")
		r.lay(Step{Op: api.OpOver})
	case 'o':
		r.word("ok:")
		r.ref(api.OpOk)
	case 'a':
		r.word("any:")
		r.ref(api.OpAny)
	case 'n':
		r.word("not:")
		r.ref(api.OpNot)
	default:
		r.failed = true
	}
	return plain{r.text[from:r.at], 1}
}

func (r *reader) brackets(depth int) plain {
	if depth >= api.MaxDepth {
		r.failed = true
		return plain{"", 1}
	}
	r.word("(")
	inner := r.want(depth + 1)
	r.word(")")
	return inner
}

func (r *reader) ref(op int) {
	s := Step{Op: op}
	s.Ref.At = r.at
	s.Ref.Name = r.name()
	if r.skip('[') {
		s.Ref.Numbered = true
		s.Ref.Number = r.number()
		r.word("]")
	}
	r.lay(s)
}
