// Package state: states of nets, for the layers in which nodes look at what their neighbours have. Routes, edges and nodes are numbered from 0 on, so all of them are checked alike; routes are numbers, or have paths, so what does not ask what a route is takes either.
package state

import (
	"slices"

	"signpost/api"
)

// MostRounds is how many rounds may be asked for.
const MostRounds = 1000

// Look: the routes that node i has to each node, if it looks now. Where what its neighbours have is kept, and how old that is, differs from layer to layer: has tells what a link's To has to node j. The net was checked.
func Look(n api.Net, i int, has func(to, j int) int) []int {
	out := make([]int, n.Nodes)
	for j := range out {
		out[j] = route(n, i, j, has)
	}
	return out
}

// route of i to j. The laws hold, so the links may come in any order, and the invalid one stands for none.
func route(n api.Net, i, j int, has func(to, j int) int) int {
	best := Own(n, i, j)
	for _, l := range n.Links {
		if l.From == i {
			made := n.Algebra.Edges[l.Edge][has(l.To, j)]
			best = n.Algebra.Best[best][made]
		}
	}
	return best
}

// Own route of i to j, without any link: the trivial one to itself, else the invalid one.
func Own(n api.Net, i, j int) int {
	if i == j {
		return 0
	}
	return n.Algebra.Size - 1
}

// Square tells whether there are so many rows of so many.
func Square[T any](x [][]T, nodes int) bool {
	if len(x) != nodes {
		return false
	}
	return !slices.ContainsFunc(x, func(row []T) bool { return len(row) != nodes })
}

// Filled: a square of so many nodes; at tells what i has to j.
func Filled[T any](nodes int, at func(i, j int) T) [][]T {
	out := make([][]T, nodes)
	for i := range out {
		out[i] = make([]T, nodes)
		for j := range out[i] {
			out[i][j] = at(i, j)
		}
	}
	return out
}

// Settle a state: rounds, until one changes nothing, or most were made; and how many changed something. What comes may be x itself.
func Settle[T any](x [][]T, most int, round func(x [][]T) [][]T, same func(x, y [][]T) bool) ([][]T, int) {
	changes := 0
	for range most {
		next := round(x)
		if same(x, next) {
			break
		}
		x = next
		changes++
	}
	return x, changes
}

// Copy of a state, whose rows share no memory, though those that were handed in may.
func Copy(x [][]int) [][]int {
	out := make([][]int, len(x))
	for i, row := range x {
		out[i] = slices.Clone(row)
	}
	return out
}

// Same tells whether two states have the same routes.
func Same(x, y [][]int) bool {
	return slices.EqualFunc(x, y, func(a, b []int) bool { return slices.Equal(a, b) })
}

// Below: is it one of the numbers from 0 on, and below end?
func Below(x, end int) bool { return x >= 0 && x < end }

// AllBelow: are all of them?
func AllBelow(row []int, end int) bool {
	return !slices.ContainsFunc(row, func(x int) bool { return !Below(x, end) })
}
