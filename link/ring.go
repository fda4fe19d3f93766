package link

import "batch/head"

// Ring tells a ring of the heads of a batch of these groups, nil if there is
// none.
func Ring(own []Group, heads []head.Head) []int {
	var waits [][]int
	for _, h := range heads {
		list := waitsFor(own, h)
		waits = append(waits, list)
	}
	return ringOf(waits)
}

// waitsFor tells to which heads of its own batch, by their numbers in it, a
// head has REFs.
func waitsFor(own []Group, h head.Head) []int {
	var list []int
	for _, step := range h.Want {
		if !step.HasRef() {
			continue
		}
		i := latest(own, step.Ref.Name)
		if i >= 0 {
			list = append(list, i)
		}
	}
	return list
}

// ringOf walks from a stuck head on. From each stuck head the way goes on to a
// stuck head, so after as many steps as there are heads it goes round a ring.
func ringOf(waits [][]int) []int {
	next := ways(waits)
	at := firstStuck(next)
	if at < 0 {
		return nil
	}
	for range next {
		at = next[at]
	}
	var ring []int
	seen := make([]bool, len(next))
	for !seen[at] {
		seen[at] = true
		ring = append(ring, at)
		at = next[at]
	}
	return ring
}

func firstStuck(next []int) int {
	for i, n := range next {
		if n >= 0 {
			return i
		}
	}
	return -1
}

// ways tells for each head a stuck head that it waits for, -1 if there is
// none. A head is stuck if it waits for a stuck one: all are taken to be, and
// those that are not come free round by round, in each round but the last at
// least one.
func ways(waits [][]int) []int {
	free := make([]bool, len(waits))
	next := make([]int, len(waits))
	for range waits {
		for i, list := range waits {
			next[i] = notFree(list, free)
			free[i] = next[i] < 0
		}
	}
	return next
}

func notFree(list []int, free []bool) int {
	for _, k := range list {
		if !free[k] {
			return k
		}
	}
	return -1
}
