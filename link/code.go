package link

import (
	"batch/api"
	"batch/head"
)

// Code writes the code of the jobs of a head, whose REFs all exist, in a batch
// of these groups, with those of the batches before.
func Code(before, own []Group, h head.Head) string {
	if len(h.Want) == 0 {
		return text(api.OpTrue)
	}
	code := ""
	for _, step := range h.Want {
		switch step.Op {
		case api.OpAnd, api.OpOr:
			code += text(step.Op)
		case api.OpOver:
			jobs := earlier(before, h.Job.Name)
			code += ofAll(step.Op, jobs)
		default:
			jobs := named(before, own, step.Ref)
			code += ofAll(step.Op, jobs)
		}
	}
	return code
}

// earlier tells the jobs of all groups of this NAME.
func earlier(before []Group, name string) []int {
	var jobs []int
	for _, g := range before {
		if g.Name != name {
			continue
		}
		for k := 0; k < g.Count; k++ {
			jobs = append(jobs, g.First+k)
		}
	}
	return jobs
}

// named tells the jobs that a REF names.
func named(before, own []Group, ref head.Ref) []int {
	g, found := meant(before, own, ref.Name)
	if !found {
		return nil
	}
	if ref.Numbered {
		return []int{g.First + ref.Number - g.Lo}
	}
	var jobs []int
	for k := 0; k < g.Count; k++ {
		jobs = append(jobs, g.First+k)
	}
	return jobs
}

// ofAll writes the code that asks op of each job, with & between them. Each is
// joined at once to those before it, so that two values are the most in hand.
func ofAll(op int, jobs []int) string {
	if len(jobs) == 0 {
		return text(api.OpTrue)
	}
	code := ""
	for i, job := range jobs {
		code += text(op)
		code += text(job)
		if i > 0 {
			code += text(api.OpAnd)
		}
	}
	return code
}

// text writes a number as one byte.
func text(n int) string {
	return string([]byte{byte(n)})
}
