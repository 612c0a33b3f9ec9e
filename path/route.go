package path

import (
	"slices"

	"signpost/api"
	"signpost/state"
)

// invalid route of a net.
func invalid(n api.Net) api.Route { return api.Route{Weight: n.Algebra.Size - 1} }

// valid tells whether a route's weight is another one than the invalid one.
func valid(n api.Net, r api.Route) bool { return r.Weight != n.Algebra.Size-1 }

// own route of i to j, without any link.
func own(n api.Net, i, j int) api.Route {
	if i == j {
		return api.Route{Path: []int{i}}
	}
	return invalid(n)
}

// right: may it be a route of that net, from whichever node to whichever? How long its path is comes first, so that no more of it is gone through than a net has nodes.
func right(n api.Net, r api.Route) bool {
	if !state.Below(r.Weight, n.Algebra.Size) {
		return false
	}
	if !valid(n, r) {
		return len(r.Path) == 0
	}
	return len(r.Path) >= 1 && len(r.Path) <= n.Nodes && state.AllBelow(r.Path, n.Nodes) && !twice(r.Path)
}

// twice: has a path a node twice?
func twice(path []int) bool {
	met := map[int]int{}
	return slices.ContainsFunc(path, func(k int) bool {
		met[k]++
		return met[k] > 1
	})
}

// begins tells whether a right route begins with that node, or has no path to tell it.
func begins(n api.Net, r api.Route, i int) bool {
	return !valid(n, r) || r.Path[0] == i
}

// leads tells whether a right route may be one of i to j.
func leads(n api.Net, r api.Route, i, j int) bool {
	return begins(n, r, i) && (!valid(n, r) || r.Path[len(r.Path)-1] == j)
}

// best of two right routes.
func best(n api.Net, a, b api.Route) api.Route {
	if ahead(n, b, a) {
		return b
	}
	return a
}

// ahead: is a taken, and not b? The laws hold, so by the weights alone a valid route is ahead of the invalid one.
func ahead(n api.Net, a, b api.Route) bool {
	if a.Weight != b.Weight {
		return n.Algebra.Best[a.Weight][b.Weight] == a.Weight
	}
	if len(a.Path) != len(b.Path) {
		return len(a.Path) < len(b.Path)
	}
	return slices.Compare(a.Path, b.Path) < 0
}

// extended: what a link makes of a right route that its To has.
func extended(n api.Net, l api.Link, r api.Route) api.Route {
	if !valid(n, r) || slices.Contains(r.Path, l.From) {
		return invalid(n)
	}
	out := api.Route{Weight: n.Algebra.Edges[l.Edge][r.Weight]}
	if valid(n, out) {
		out.Path = slices.Concat([]int{l.From}, r.Path)
	}
	return out
}

// copied: the same route, with a path of its own.
func copied(r api.Route) api.Route {
	return api.Route{Weight: r.Weight, Path: slices.Clone(r.Path)}
}

// same tells whether two states have the same routes.
func same(x, y [][]api.Route) bool {
	sameRoute := func(a, b api.Route) bool { return a.Weight == b.Weight && slices.Equal(a.Path, b.Path) }
	return slices.EqualFunc(x, y, func(a, b []api.Route) bool { return slices.EqualFunc(a, b, sameRoute) })
}
