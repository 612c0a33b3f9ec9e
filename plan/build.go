package plan

import "signpost/api"

// build the algebra of a plan that was checked.
func build(p api.Plan) api.Algebra {
	switch p.Kind {
	case api.PlanHops:
		return buildHops(p.N, p.Edges)
	case api.PlanWide:
		return buildWide(p.N, p.Edges)
	case api.PlanPair:
		return buildPair(build(p.Parts[0]), build(p.Parts[1]))
	case api.PlanFilter:
		return buildFilter(build(p.Parts[0]), p.Edges)
	}
	return api.Algebra{}
}

func buildHops(n int, costs []int) api.Algebra {
	invalid := n + 1
	return api.Algebra{
		Size: n + 2,
		Best: lesser(n + 2),
		Edges: table(len(costs), n+2, func(e, a int) int {
			return min(a+costs[e], invalid)
		}),
	}
}

func buildWide(n int, widths []int) api.Algebra {
	return api.Algebra{
		Size: n + 2,
		Best: lesser(n + 2),
		// No width is above n, so the invalid one stays what it is.
		Edges: table(len(widths), n+2, func(e, a int) int {
			return max(a, widths[e])
		}),
	}
}

func buildPair(first, second api.Algebra) api.Algebra {
	// How many valid routes each part has is the number of its invalid one, too.
	firsts, seconds := first.Size-1, second.Size-1
	invalid := firsts * seconds
	best := func(a, b int) int {
		if a == invalid {
			return b
		}
		if b == invalid {
			return a
		}
		if a/seconds == b/seconds {
			return a/seconds*seconds + second.Best[a%seconds][b%seconds]
		}
		if first.Best[a/seconds][b/seconds] == a/seconds {
			return a
		}
		return b
	}
	edge := func(e, a int) int {
		if a == invalid {
			return invalid
		}
		x, y := first.Edges[e][a/seconds], second.Edges[e][a%seconds]
		if x == firsts || y == seconds {
			return invalid
		}
		return x*seconds + y
	}
	size := invalid + 1
	return api.Algebra{Size: size, Best: table(size, size, best), Edges: table(len(first.Edges), size, edge)}
}

func buildFilter(part api.Algebra, stopped []int) api.Algebra {
	invalid := part.Size - 1
	return api.Algebra{
		Size: part.Size,
		Best: part.Best,
		Edges: table(len(stopped), part.Size, func(e, a int) int {
			if stopped[e]>>a&1 == 1 {
				return invalid
			}
			return part.Edges[e][a]
		}),
	}
}

// lesser of two routes is best.
func lesser(size int) [][]int {
	return table(size, size, func(a, b int) int { return min(a, b) })
}

// table of so many rows, each a list of its own; at tells what stands in a row at a place.
func table(rows, places int, at func(row, place int) int) [][]int {
	out := make([][]int, rows)
	for i := range out {
		out[i] = make([]int, places)
		for k := range out[i] {
			out[i][k] = at(i, k)
		}
	}
	return out
}
