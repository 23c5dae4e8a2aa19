package cfg

import "averment/ir"

// How a block stands on the way depth first.
const (
	unseen = 0
	open   = 1
	closed = 2
)

// walked is what is found on the way depth first: edges to open blocks, as they were looked at, and blocks, as they were closed.
type walked struct {
	backs  [][2]int
	closed []int
}

// walk goes through f depth first. It keeps the open blocks in a list, not in calls within calls: a function that isn't well-formed may have any number of blocks.
func walk(f ir.Func) walked {
	var w walked
	if len(f.Blocks) == 0 {
		return w
	}
	left := ways(f)
	stands := make([]int, len(f.Blocks))
	stands[0] = open
	path := []int{0}
	for len(path) > 0 {
		b := path[len(path)-1]
		if len(left[b]) == 0 {
			stands[b] = closed
			w.closed = append(w.closed, b)
			path = path[:len(path)-1]
			continue
		}
		to := left[b][0]
		left[b] = left[b][1:]
		switch stands[to] {
		case unseen:
			stands[to] = open
			path = append(path, to)
		case open:
			w.backs = append(w.backs, [2]int{b, to})
		}
	}
	return w
}
