// Package link finds the jobs that the heads of a batch wait for.
package link

import "batch/head"

// Group is a head with its jobs: Count of them, numbered from First on. Where
// it has an array, Lo is the number there of its first job.
type Group struct {
	Name  string
	Array bool
	Lo    int
	First int
	Count int
}

// Groups tells the groups of a batch, head for head, where its jobs are
// numbered from first on.
func Groups(heads []head.Head, first int) []Group {
	var list []Group
	for _, h := range heads {
		g := group(h, first)
		list = append(list, g)
		first += g.Count
	}
	return list
}

// group copies the name, because groups are kept and the text is not.
func group(h head.Head, first int) Group {
	g := Group{Name: string([]byte(h.Job.Name)), First: first, Count: 1}
	if h.Job.Array {
		g.Array = true
		g.Lo = h.Job.Lo
		g.Count = h.Job.Hi - h.Job.Lo + 1
	}
	return g
}

// Missing tells the place of the first REF in the heads of a batch that there
// is not. Its own groups are asked ahead of those of the batches before.
func Missing(before, own []Group, heads []head.Head) (int, bool) {
	for _, h := range heads {
		for _, step := range h.Want {
			if step.HasRef() && !exists(before, own, step.Ref) {
				return step.Ref.At, true
			}
		}
	}
	return 0, false
}

func exists(before, own []Group, ref head.Ref) bool {
	g, found := meant(before, own, ref.Name)
	if !found || !ref.Numbered {
		return found
	}
	return g.Array && ref.Number >= g.Lo && ref.Number < g.Lo+g.Count
}

// meant tells which group a NAME means in a batch.
func meant(before, own []Group, name string) (Group, bool) {
	i := latest(own, name)
	if i >= 0 {
		return own[i], true
	}
	i = latest(before, name)
	if i >= 0 {
		return before[i], true
	}
	return Group{}, false
}

// latest tells where in the list the last group of this NAME is, -1 if there
// is none.
func latest(groups []Group, name string) int {
	for i := len(groups) - 1; i >= 0; i-- {
		if groups[i].Name == name {
			return i
		}
	}
	return -1
}
