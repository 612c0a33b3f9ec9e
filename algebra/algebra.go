// Package algebra: algebras: see doc/01-algebra.md.
package algebra

import "signpost/api"

// Check an algebra.
func Check(a api.Algebra) api.Errno {
	if a.Size < api.MinSize || a.Size > api.MaxSize {
		return api.ErrRange
	}
	if len(a.Edges) > api.MaxEdges {
		return api.ErrMany
	}
	if len(a.Best) != a.Size || !allWide(a.Best, a.Size) || !allWide(a.Edges, a.Size) {
		return api.ErrForm
	}
	if !allRoutes(a.Best, a.Size) || !allRoutes(a.Edges, a.Size) {
		return api.ErrNone
	}
	return api.OK
}

// Laws that are broken: the first one.
func Laws(a api.Algebra) (api.Broken, api.Errno) {
	return firstBroken(a, api.LawSwap, api.LawOrder, api.LawSelect, api.LawTrivial, api.LawInvalid, api.LawFixed, api.LawIncrease)
}

// Strict: where it is not.
func Strict(a api.Algebra) (api.Broken, api.Errno) {
	return firstBroken(a, api.LawStrict)
}

// Distributive: where it is not.
func Distributive(a api.Algebra) (api.Broken, api.Errno) {
	return firstBroken(a, api.LawDistribute)
}

// Holds: does a law hold for what is told?
func Holds(a api.Algebra, b api.Broken) (bool, api.Errno) {
	if e := Check(a); e != api.OK {
		return false, e
	}
	n, ok := namedByLaws()[b.Law]
	if !ok {
		return false, api.ErrKind
	}
	if !spanOf(a, n).has(b) {
		return false, api.ErrRange
	}
	return holds(a, b), api.OK
}

// allWide tells whether each row has size routes.
func allWide(rows [][]int, size int) bool {
	for _, row := range rows {
		if len(row) != size {
			return false
		}
	}
	return true
}

// allRoutes tells whether whatever stands in the rows is a route.
func allRoutes(rows [][]int, size int) bool {
	for _, row := range rows {
		for _, r := range row {
			if r < 0 || r >= size {
				return false
			}
		}
	}
	return true
}
