// Package plan: plans: see doc/02-plan.md.
package plan

import "signpost/api"

// Check a plan.
func Check(p api.Plan) api.Errno {
	if tooMany(p, api.MaxDeep) {
		return api.ErrMany
	}
	_, e := measure(p)
	return e
}

// Build the algebra of a plan.
func Build(p api.Plan) (api.Algebra, api.Errno) {
	if e := Check(p); e != api.OK {
		return api.Algebra{}, e
	}
	return build(p), api.OK
}

// tooMany plans within each other (more than deep), or edges of one. It goes no deeper than that: a list of Parts may hold itself.
func tooMany(p api.Plan, deep int) bool {
	if deep == 0 || len(p.Edges) > api.MaxEdges {
		return true
	}
	for _, part := range p.Parts {
		if tooMany(part, deep-1) {
			return true
		}
	}
	return false
}

// shape of the algebra that a plan would have.
type shape struct{ size, edges int }

// measure a plan that is not too deep: its shape, or why it has none.
func measure(p api.Plan) (shape, api.Errno) {
	var parts []shape
	for _, part := range p.Parts {
		s, e := measure(part)
		if e != api.OK {
			return shape{}, e
		}
		parts = append(parts, s)
	}
	switch p.Kind {
	case api.PlanHops, api.PlanWide:
		return measureNumbers(p)
	case api.PlanPair:
		return measurePair(p, parts)
	case api.PlanFilter:
		return measureFilter(p, parts)
	}
	return shape{}, api.ErrKind
}

// measureNumbers: of PlanHops and PlanWide.
func measureNumbers(p api.Plan) (shape, api.Errno) {
	if len(p.Parts) != 0 {
		return shape{}, api.ErrForm
	}
	if p.N < 1 || p.N > api.MaxSize-2 || !allWithin(p.Edges, 1, p.N) {
		return shape{}, api.ErrRange
	}
	return shape{size: p.N + 2, edges: len(p.Edges)}, api.OK
}

func measurePair(p api.Plan, parts []shape) (shape, api.Errno) {
	if len(parts) != 2 {
		return shape{}, api.ErrForm
	}
	if p.N != 0 {
		return shape{}, api.ErrRange
	}
	if len(p.Edges) != 0 {
		return shape{}, api.ErrForm
	}
	if parts[0].edges != parts[1].edges {
		return shape{}, api.ErrState
	}
	size := (parts[0].size-1)*(parts[1].size-1) + 1
	if size > api.MaxSize {
		return shape{}, api.ErrMany
	}
	return shape{size: size, edges: parts[0].edges}, api.OK
}

func measureFilter(p api.Plan, parts []shape) (shape, api.Errno) {
	if len(parts) != 1 {
		return shape{}, api.ErrForm
	}
	if p.N != 0 {
		return shape{}, api.ErrRange
	}
	if len(p.Edges) != parts[0].edges {
		return shape{}, api.ErrState
	}
	if !allWithin(p.Edges, 0, 1<<parts[0].size-1) {
		return shape{}, api.ErrRange
	}
	return parts[0], api.OK
}

// allWithin tells whether all numbers are from least to most.
func allWithin(numbers []int, least, most int) bool {
	for _, x := range numbers {
		if x < least || x > most {
			return false
		}
	}
	return true
}
