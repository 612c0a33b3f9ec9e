package algebra

import (
	"iter"

	"signpost/api"
)

// named: how many routes (of a, b, c, from a on) and how many edges a law names.
type named struct{ routes, edges int }

// namedByLaws has what each law names; what is not in it is no law.
func namedByLaws() map[int]named {
	return map[int]named{
		api.LawSwap:       {routes: 2},
		api.LawOrder:      {routes: 3},
		api.LawSelect:     {routes: 2},
		api.LawTrivial:    {routes: 1},
		api.LawInvalid:    {routes: 1},
		api.LawFixed:      {edges: 1},
		api.LawIncrease:   {routes: 1, edges: 1},
		api.LawStrict:     {routes: 1, edges: 1},
		api.LawDistribute: {routes: 2, edges: 1},
	}
}

// span of a law: how many numbers, from 0 on, may stand in each place of a Broken.
type span struct{ a, b, c, edge int }

// spanOf a law in an algebra. What the law does not name has one number, 0, so that going through a span and asking whether something lies in it need not know what is named.
func spanOf(a api.Algebra, n named) span {
	s := span{a: 1, b: 1, c: 1, edge: 1}
	if n.routes > 0 {
		s.a = a.Size
	}
	if n.routes > 1 {
		s.b = a.Size
	}
	if n.routes > 2 {
		s.c = a.Size
	}
	if n.edges > 0 {
		s.edge = len(a.Edges)
	}
	return s
}

// has tells whether what is told lies within the span.
func (s span) has(b api.Broken) bool {
	return below(b.A, s.a) && below(b.B, s.b) && below(b.C, s.c) && below(b.Edge, s.edge)
}

// below: is it one of the numbers from 0 on?
func below(x, end int) bool { return x >= 0 && x < end }

// cases of a law in the order in which they are told: by a, then b, then c, then the edge.
func cases(law int, s span) iter.Seq[api.Broken] {
	return func(yield func(api.Broken) bool) {
		for x := range s.a {
			for y := range s.b {
				for z := range s.c {
					for e := range s.edge {
						if !yield(api.Broken{Law: law, A: x, B: y, C: z, Edge: e}) {
							return
						}
					}
				}
			}
		}
	}
}

// firstBroken of some laws, which come rising; no law, if none is.
func firstBroken(a api.Algebra, laws ...int) (api.Broken, api.Errno) {
	if e := Check(a); e != api.OK {
		return api.Broken{}, e
	}
	names := namedByLaws()
	for _, law := range laws {
		if b := brokenBy(a, law, names[law]); b != (api.Broken{}) {
			return b, api.OK
		}
	}
	return api.Broken{}, api.OK
}

// brokenBy which routes and edge a law is, the first ones.
func brokenBy(a api.Algebra, law int, n named) api.Broken {
	for b := range cases(law, spanOf(a, n)) {
		if !holds(a, b) {
			return b
		}
	}
	return api.Broken{}
}

// holds tells whether a law holds for what it names. The algebra is right, and what is told lies in the law's span.
func holds(a api.Algebra, x api.Broken) bool {
	invalid := a.Size - 1
	best := func(r, s int) int { return a.Best[r][s] }
	// Called for laws that name an edge alone: there need not be one.
	edge := func(r int) int { return a.Edges[x.Edge][r] }
	switch x.Law {
	case api.LawSwap:
		return best(x.A, x.B) == best(x.B, x.A)
	case api.LawOrder:
		return best(x.A, best(x.B, x.C)) == best(best(x.A, x.B), x.C)
	case api.LawSelect:
		return best(x.A, x.B) == x.A || best(x.A, x.B) == x.B
	case api.LawTrivial:
		return best(0, x.A) == 0
	case api.LawInvalid:
		return best(invalid, x.A) == x.A
	case api.LawFixed:
		return edge(invalid) == invalid
	case api.LawIncrease:
		return best(x.A, edge(x.A)) == x.A
	case api.LawStrict:
		return x.A == invalid || best(x.A, edge(x.A)) == x.A && edge(x.A) != x.A
	case api.LawDistribute:
		return edge(best(x.A, x.B)) == best(edge(x.A), edge(x.B))
	}
	return false
}
