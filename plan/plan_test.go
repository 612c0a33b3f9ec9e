package plan_test

import (
	"math"
	"reflect"
	"testing"

	"signpost/algebra"
	"signpost/api"
	"signpost/plan"
)

func hops(n int, costs ...int) api.Plan {
	return api.Plan{Kind: api.PlanHops, N: n, Edges: costs}
}

func wide(n int, widths ...int) api.Plan {
	return api.Plan{Kind: api.PlanWide, N: n, Edges: widths}
}

func pair(parts ...api.Plan) api.Plan {
	return api.Plan{Kind: api.PlanPair, Parts: parts}
}

func filter(part api.Plan, edges ...int) api.Plan {
	return api.Plan{Kind: api.PlanFilter, Parts: []api.Plan{part}, Edges: edges}
}

// turned: a plan with something done to it.
func turned(p api.Plan, do func(p *api.Plan)) api.Plan {
	do(&p)
	return p
}

// endless: a plan whose list of Parts holds itself.
func endless(kind, parts int) api.Plan {
	list := make([]api.Plan, parts)
	for i := range list {
		list[i] = api.Plan{Kind: kind, Parts: list}
	}
	return list[0]
}

type wrong struct {
	name string
	p    api.Plan
	want api.Errno
}

// wrongs: plans that are none, and what is told of them; where several errors apply, the one that B1 names first.
func wrongs() []wrong {
	nine := []int{1, 1, 1, 1, 1, 1, 1, 1, 1}
	bad := api.Plan{Kind: 9}
	return []wrong{
		{"five deep", filter(filter(filter(filter(hops(1))))), api.ErrMany},
		{"five deep on the right", pair(hops(1), pair(hops(1), pair(hops(1), pair(hops(1), hops(1))))), api.ErrMany},
		{"endless", endless(api.PlanFilter, 1), api.ErrMany},
		{"endless pair", endless(api.PlanPair, 2), api.ErrMany},
		{"endless, of no kind", endless(0, 3), api.ErrMany},
		{"nine edges", hops(2, nine...), api.ErrMany},
		{"nine edges of a width", wide(2, nine...), api.ErrMany},
		{"nine edges of a pair", turned(pair(hops(1), hops(1)), func(p *api.Plan) { p.Edges = nine }), api.ErrMany},
		{"nine edges of no kind", api.Plan{Kind: -1, Edges: nine}, api.ErrMany},
		{"depth ahead of parts to the left", pair(bad, filter(filter(filter(filter(hops(1)))))), api.ErrMany},
		{"edges ahead of parts to the left", pair(bad, filter(hops(1, nine...))), api.ErrMany},

		{"nothing", api.Plan{}, api.ErrKind},
		{"kind 5", api.Plan{Kind: 5}, api.ErrKind},
		{"kind below 0", api.Plan{Kind: -1, N: -1}, api.ErrKind},
		{"least kind", api.Plan{Kind: math.MinInt}, api.ErrKind},
		{"kind ahead of form", api.Plan{Kind: 5, N: 99, Parts: []api.Plan{hops(1)}, Edges: []int{-1}}, api.ErrKind},
		{"a part ahead of its whole", api.Plan{Kind: 5, Parts: []api.Plan{hops(0)}}, api.ErrRange},
		{"a part ahead of how many there are", pair(hops(1), hops(1), bad), api.ErrKind},
		{"a part of one that has none", turned(hops(1), func(p *api.Plan) { p.Parts = []api.Plan{bad} }), api.ErrKind},
		{"the left part ahead", pair(hops(0), bad), api.ErrRange},
		{"the left part's part ahead", pair(filter(hops(2, 3), 1), bad), api.ErrRange},
		{"the right part", pair(hops(1), bad), api.ErrKind},

		{"hops with a part", turned(hops(1), func(p *api.Plan) { p.Parts = []api.Plan{hops(1)} }), api.ErrForm},
		{"a width with a part", turned(wide(1), func(p *api.Plan) { p.Parts = []api.Plan{hops(1)} }), api.ErrForm},
		{"form ahead of N", turned(hops(0), func(p *api.Plan) { p.Parts = []api.Plan{hops(1)} }), api.ErrForm},
		{"a pair of none", pair(), api.ErrForm},
		{"a pair of one", pair(hops(1)), api.ErrForm},
		{"a pair of three", pair(hops(1), hops(1), hops(1)), api.ErrForm},
		{"a filter of none", api.Plan{Kind: api.PlanFilter}, api.ErrForm},
		{"a filter of two", api.Plan{Kind: api.PlanFilter, Parts: []api.Plan{hops(1), hops(1)}}, api.ErrForm},
		{"a filter's form ahead of N", api.Plan{Kind: api.PlanFilter, N: 1}, api.ErrForm},

		{"hops up to 0", hops(0), api.ErrRange},
		{"hops up to 23", hops(23), api.ErrRange},
		{"a width up to 0", wide(0), api.ErrRange},
		{"a width up to 23", wide(23), api.ErrRange},
		{"least N", hops(math.MinInt), api.ErrRange},
		{"greatest N", wide(math.MaxInt, math.MaxInt), api.ErrRange},
		{"N of a pair", turned(pair(hops(1), hops(1)), func(p *api.Plan) { p.N = 1 }), api.ErrRange},
		{"N of a filter", turned(filter(hops(1)), func(p *api.Plan) { p.N = -1 }), api.ErrRange},
		{"N of a pair ahead of its edges", turned(pair(hops(1), hops(1)), func(p *api.Plan) { p.N, p.Edges = 1, []int{1} }), api.ErrRange},
		{"N of a filter ahead of its edges", turned(filter(hops(1, 1)), func(p *api.Plan) { p.N = 1 }), api.ErrRange},
		{"a cost of 0", hops(2, 1, 0), api.ErrRange},
		{"a cost above N", hops(2, 3), api.ErrRange},
		{"least cost", hops(2, math.MinInt), api.ErrRange},
		{"greatest cost", hops(2, math.MaxInt), api.ErrRange},
		{"a width of 0", wide(2, 0), api.ErrRange},
		{"a width above N", wide(2, 2, 3), api.ErrRange},

		{"edges of a pair", turned(pair(hops(1, 1), hops(1, 1)), func(p *api.Plan) { p.Edges = []int{1} }), api.ErrForm},
		{"edges of a pair ahead of those of its parts", turned(pair(hops(1, 1), hops(1)), func(p *api.Plan) { p.Edges = []int{1} }), api.ErrForm},
		{"parts with more edges", pair(hops(1, 1), hops(1)), api.ErrState},
		{"parts with fewer edges", pair(hops(1), filter(hops(1, 1), 0)), api.ErrState},
		{"parts' edges ahead of size", pair(hops(9, 1), hops(9)), api.ErrState},
		{"a filter with fewer edges", filter(hops(2, 1)), api.ErrState},
		{"a filter with more edges", filter(hops(2, 1), 0, 0), api.ErrState},
		{"a filter's edges ahead of what they are", filter(hops(2, 1), -1, 0), api.ErrState},
		{"a filter of a pair with fewer edges", filter(pair(hops(1, 1), hops(1, 1))), api.ErrState},
		{"a filter's edge below 0", filter(hops(2, 1), -1), api.ErrRange},
		{"a filter's edge of 2 to the power of the size", filter(hops(2, 1), 16), api.ErrRange},
		{"the same, of the greatest size", filter(hops(22, 1), 1<<24), api.ErrRange},
		{"the same, of a pair", filter(pair(hops(1, 1), hops(1, 1)), 32), api.ErrRange},
		{"a filter's least edge", filter(hops(2, 1), math.MinInt), api.ErrRange},
		{"a filter's greatest edge", filter(hops(2, 1), math.MaxInt), api.ErrRange},

		{"a pair of size 26", pair(hops(4), hops(4)), api.ErrMany},
		{"a pair of size 25", pair(hops(3), hops(5)), api.ErrMany},
		{"the greatest pair", pair(wide(22, 1), wide(22, 1)), api.ErrMany},
		{"a pair within a pair", pair(pair(hops(1), hops(2)), hops(3)), api.ErrMany},
	}
}

// B1, P1: what is wrong, and then nothing is built.
func TestCheck(t *testing.T) {
	for _, w := range wrongs() {
		if e := plan.Check(w.p); e != w.want {
			t.Errorf("Check of %s: %d, and must be %d", w.name, e, w.want)
		}
		a, e := plan.Build(w.p)
		if e != w.want || a.Size != 0 || len(a.Best) != 0 || len(a.Edges) != 0 {
			t.Errorf("Build of %s: %v %d, and must be nothing and %d", w.name, a, e, w.want)
		}
	}
}

// rights: plans at the edges of what is right.
func rights() map[string]api.Plan {
	eight := []int{1, 1, 1, 1, 1, 1, 1, 1}
	return map[string]api.Plan{
		"least hops":             hops(1),
		"greatest hops":          hops(22, 1, 22),
		"least width":            wide(1, 1),
		"greatest width":         wide(22, 1, 22),
		"eight edges":            hops(1, eight...),
		"empty lists":            {Kind: api.PlanHops, N: 1, Edges: []int{}, Parts: []api.Plan{}},
		"a pair, empty edges":    {Kind: api.PlanPair, Edges: []int{}, Parts: []api.Plan{hops(1), hops(1)}},
		"four deep":              filter(filter(filter(hops(1, 1), 0), 1), 2),
		"four deep on the right": pair(hops(1, 1), pair(hops(1, 1), filter(hops(1, 1), 4))),
		"a pair of size 23":      pair(hops(10), hops(1)),
		"a pair of size 22":      pair(hops(2, 1), hops(6, 1)),
		"a filter that has all":  filter(hops(2, 1), 15),
		"the greatest filter":    filter(hops(22, 1), 1<<24-1),
		"the widest pair":        pair(wide(10, eight...), wide(1, eight...)),
	}
}

// B1
func TestCheckRight(t *testing.T) {
	for name, p := range rights() {
		if e := plan.Check(p); e != api.OK {
			t.Errorf("%s: %d, and must be OK", name, e)
		}
	}
}

// B2: algebras told out whole; the second example of the document is the first one.
func TestBuild(t *testing.T) {
	three := [][]int{{0, 0, 0}, {0, 1, 1}, {0, 1, 2}}
	four := [][]int{{0, 0, 0, 0}, {0, 1, 1, 1}, {0, 1, 2, 2}, {0, 1, 2, 3}}
	five := [][]int{{0, 0, 0, 0, 0}, {0, 1, 1, 1, 1}, {0, 1, 2, 2, 2}, {0, 1, 2, 3, 3}, {0, 1, 2, 3, 4}}
	for _, c := range []struct {
		name string
		p    api.Plan
		want api.Algebra
	}{
		{"hops up to 1", hops(1, 1), api.Algebra{Size: 3, Best: three, Edges: [][]int{{1, 2, 2}}}},
		{"hops", hops(2, 1, 2), api.Algebra{Size: 4, Best: four, Edges: [][]int{{1, 2, 3, 3}, {2, 3, 3, 3}}}},
		{"widths", wide(2, 1, 2), api.Algebra{Size: 4, Best: four, Edges: [][]int{{1, 1, 2, 3}, {2, 2, 2, 3}}}},
		{"a pair", pair(wide(1, 1), hops(1, 1)), api.Algebra{Size: 5, Best: five, Edges: [][]int{{3, 4, 3, 4, 4}}}},
		{"a pair the other way", pair(hops(1, 1), wide(1, 1)), api.Algebra{Size: 5, Best: five, Edges: [][]int{{3, 3, 4, 4, 4}}}},
		{"a filter", filter(hops(2, 1, 1, 2), 1, 6, 0), api.Algebra{Size: 4, Best: four, Edges: [][]int{{3, 2, 3, 3}, {1, 3, 3, 3}, {2, 3, 3, 3}}}},
		{"a filter that has the invalid one", filter(wide(2, 1), 8), api.Algebra{Size: 4, Best: four, Edges: [][]int{{1, 1, 2, 3}}}},
		{"a filter of a filter", filter(filter(wide(2, 1), 1), 4), api.Algebra{Size: 4, Best: four, Edges: [][]int{{3, 1, 3, 3}}}},
	} {
		if a, e := plan.Build(c.p); e != api.OK || !reflect.DeepEqual(a, c.want) {
			t.Errorf("%s: %v %d, and must be %v", c.name, a, e, c.want)
		}
	}
	if a, e := plan.Build(hops(1)); e != api.OK || a.Size != 3 || !reflect.DeepEqual(a.Best, three) || len(a.Edges) != 0 {
		t.Errorf("no edge: %v %d", a, e)
	}
}

// value of a route as a plan means it: numbers one behind the other; none of the invalid one.
type value []int

// values of a plan's valid routes, in their order.
func values(p api.Plan) []value {
	switch p.Kind {
	case api.PlanPair:
		var out []value
		for _, x := range values(p.Parts[0]) {
			for _, y := range values(p.Parts[1]) {
				out = append(out, append(append(value{}, x...), y...))
			}
		}
		return out
	case api.PlanFilter:
		return values(p.Parts[0])
	}
	var out []value
	for i := 0; i <= p.N; i++ {
		out = append(out, value{i})
	}
	return out
}

// number of a value in a plan.
func number(p api.Plan, v value) int {
	all := values(p)
	for i, x := range all {
		if reflect.DeepEqual(x, v) {
			return i
		}
	}
	return len(all)
}

// made: what an edge makes of a value.
func made(p api.Plan, edge int, v value) value {
	switch p.Kind {
	case api.PlanHops:
		if v[0]+p.Edges[edge] > p.N {
			return nil
		}
		return value{v[0] + p.Edges[edge]}
	case api.PlanWide:
		return value{max(v[0], p.Edges[edge])}
	case api.PlanPair:
		cut := len(values(p.Parts[0])[0])
		x, y := made(p.Parts[0], edge, v[:cut:cut]), made(p.Parts[1], edge, v[cut:])
		if x == nil || y == nil {
			return nil
		}
		return append(append(value{}, x...), y...)
	}
	if p.Edges[edge]&(1<<number(p.Parts[0], v)) != 0 {
		return nil
	}
	return made(p.Parts[0], edge, v)
}

// ahead: is the first value better? The first number that differs tells.
func ahead(v, w value) bool {
	for i := range v {
		if v[i] != w[i] {
			return v[i] < w[i]
		}
	}
	return true
}

// meant: the algebra that a plan means, by values.
func meant(p api.Plan, edges int) api.Algebra {
	all := values(p)
	size := len(all) + 1
	a := api.Algebra{Size: size, Edges: [][]int{}}
	for i := range size {
		row := make([]int, size)
		for k := range row {
			row[k] = k
			if k == size-1 || i < size-1 && ahead(all[i], all[k]) {
				row[k] = i
			}
		}
		a.Best = append(a.Best, row)
	}
	for e := range edges {
		row := make([]int, size)
		for i := range row {
			row[i] = size - 1
			if i < size-1 {
				if v := made(p, e, all[i]); v != nil {
					row[i] = number(p, v)
				}
			}
		}
		a.Edges = append(a.Edges, row)
	}
	return a
}

// draw: numbers, the same each time.
type draw uint64

func (d *draw) n(n int) int {
	*d = *d*6364136223846793005 + 1442695040888963407
	return int(uint64(*d) >> 33 % uint64(n))
}

// some plan, with so many edges; it may be too great.
func some(d *draw, deep, edges int) api.Plan {
	kind := 1 + d.n(4)
	if deep == 1 {
		kind = 1 + d.n(2)
	}
	p := api.Plan{Kind: kind}
	switch kind {
	case api.PlanPair:
		p.Parts = []api.Plan{some(d, deep-1, edges), some(d, deep-1, edges)}
		return p
	case api.PlanFilter:
		p.Parts = []api.Plan{some(d, deep-1, edges)}
		for range edges {
			p.Edges = append(p.Edges, d.n(1<<min(1+len(values(p.Parts[0])), 20)))
		}
		return p
	}
	p.N = 1 + d.n(4)
	for range edges {
		p.Edges = append(p.Edges, 1+d.n(p.N))
	}
	return p
}

// strictBy its kinds: hops are, a pair of which a part is, and what is left of one that is.
func strictBy(p api.Plan) bool {
	switch p.Kind {
	case api.PlanHops:
		return true
	case api.PlanPair:
		return strictBy(p.Parts[0]) || strictBy(p.Parts[1])
	case api.PlanFilter:
		return strictBy(p.Parts[0])
	}
	return false
}

// B2, B3: what is built is what the plan means, breaks no law, and is strict where it must be.
func TestBuildSome(t *testing.T) {
	d := draw(5)
	built := map[int]int{}
	for range 3000 {
		edges := d.n(4)
		p := some(&d, 1+d.n(4), edges)
		a, e := plan.Build(p)
		if len(values(p)) >= api.MaxSize {
			if e != api.ErrMany {
				t.Fatalf("%v: %d, and must be %d", p, e, api.ErrMany)
			}
			continue
		}
		if want := meant(p, edges); e != api.OK || !reflect.DeepEqual(a, want) {
			t.Fatalf("%v: %v %d, and must be %v", p, a, e, want)
		}
		built[p.Kind]++
		lawful(t, p, a)
	}
	for kind := api.PlanHops; kind <= api.PlanFilter; kind++ {
		if built[kind] < 100 {
			t.Errorf("kind %d: built %d times", kind, built[kind])
		}
	}
}

// B3
func TestBuildRights(t *testing.T) {
	for name, p := range rights() {
		a, e := plan.Build(p)
		if e != api.OK {
			t.Errorf("%s: %d", name, e)
		}
		lawful(t, p, a)
	}
}

// lawful: B3 of what was built.
func lawful(t *testing.T, p api.Plan, a api.Algebra) {
	if e := algebra.Check(a); e != api.OK {
		t.Errorf("%v: Check says %d", p, e)
	}
	if b, e := algebra.Laws(a); b != (api.Broken{}) || e != api.OK {
		t.Errorf("%v: Laws says %v %d", p, b, e)
	}
	if b, e := algebra.Strict(a); strictBy(p) && b != (api.Broken{}) || e != api.OK {
		t.Errorf("%v: Strict says %v %d", p, b, e)
	}
	if p.Kind == api.PlanPair {
		first, _ := plan.Build(p.Parts[0])
		second, _ := plan.Build(p.Parts[1])
		b, _ := algebra.Strict(a)
		x, _ := algebra.Strict(first)
		y, _ := algebra.Strict(second)
		if b.Law != api.LawNone && (x.Law == api.LawNone || y.Law == api.LawNone) {
			t.Errorf("%v: a part is strict, and the pair is not: %v", p, b)
		}
	}
}

// roomy: the same plan, with spare room behind each list.
func roomy(p api.Plan) api.Plan {
	edges := append(make([]int, 0, len(p.Edges)+2), p.Edges...)
	for i := len(edges); i < cap(edges); i++ {
		edges[:cap(edges)][i] = 88
	}
	parts := make([]api.Plan, 0, len(p.Parts)+2)
	for _, part := range p.Parts {
		parts = append(parts, roomy(part))
	}
	for i := len(parts); i < cap(parts); i++ {
		parts[:cap(parts)][i] = api.Plan{Kind: 77}
	}
	p.Edges, p.Parts = edges, parts
	return p
}

// whole: a copy of a plan and of what lies behind its lists.
func whole(p api.Plan) api.Plan {
	p.Edges = append([]int{len(p.Edges)}, p.Edges[:cap(p.Edges)]...)
	parts := []api.Plan{{N: len(p.Parts)}}
	for _, part := range p.Parts[:cap(p.Parts)] {
		parts = append(parts, whole(part))
	}
	p.Parts = parts
	return p
}

// P2: what is handed in is only read, and not kept: what is done to it later is not seen.
func TestOnlyRead(t *testing.T) {
	for name, p := range rights() {
		want, _ := plan.Build(p)
		p = roomy(p)
		before := whole(p)
		a, _ := plan.Build(p)
		plan.Check(p)
		if !reflect.DeepEqual(whole(p), before) {
			t.Errorf("%s was changed", name)
		}
		spoil(p)
		if !reflect.DeepEqual(a, want) {
			t.Errorf("%s was kept", name)
		}
	}
}

// spoil all numbers of a plan's lists.
func spoil(p api.Plan) {
	for i := range p.Edges {
		p.Edges[i] = -5
	}
	for i := range p.Parts {
		spoil(p.Parts[i])
		p.Parts[i].N = -5
	}
}

// P2: each list that comes is memory of its own, the room behind it too.
func TestOwnMemory(t *testing.T) {
	for name, p := range rights() {
		a, _ := plan.Build(p)
		lists := append(append([][]int{}, a.Best...), a.Edges...)
		for i, l := range lists {
			for k := range l[:cap(l)] {
				l[:cap(l)][k] = 1000 + i
			}
		}
		for i, l := range lists {
			for _, x := range l {
				if x != 1000+i {
					t.Fatalf("%s: lists share memory", name)
				}
			}
		}
		rows := a.Best[:cap(a.Best)]
		for i := range rows {
			rows[i] = nil
		}
		for _, l := range a.Edges {
			if l == nil {
				t.Fatalf("%s: Best and Edges share memory", name)
			}
		}
	}
}

// P3: the same comes each time, whatever was built and changed between.
func TestSameEachTime(t *testing.T) {
	for name, p := range rights() {
		a, e := plan.Build(p)
		want, _ := plan.Build(p)
		for _, l := range append(a.Best, a.Edges...) {
			clear(l)
		}
		for _, w := range wrongs() {
			plan.Build(w.p)
		}
		for _, q := range rights() {
			plan.Build(q)
		}
		if b, f := plan.Build(p); e != f || !reflect.DeepEqual(b, want) {
			t.Errorf("%s: %v %d, and must be %v %d", name, b, f, want, e)
		}
	}
}

// P1: whatever is handed in, the call ends, and with an error nothing else comes.
func TestWhatever(t *testing.T) {
	d := draw(7)
	numbers := []int{math.MinInt, -1, 0, 1, 2, 3, 4, 5, 15, 16, 22, 23, 24, 1 << 24, math.MaxInt}
	var whatever func(deep int) api.Plan
	whatever = func(deep int) api.Plan {
		p := api.Plan{Kind: d.n(6), N: numbers[d.n(len(numbers))]}
		if d.n(2) == 0 {
			p.N = 0
		}
		for range d.n(10) {
			p.Edges = append(p.Edges, numbers[d.n(len(numbers))])
		}
		for deep > 0 && d.n(3) > 0 {
			p.Parts = append(p.Parts, whatever(deep-1))
		}
		return p
	}
	for range 20000 {
		p := whatever(d.n(6))
		a, e := plan.Build(p)
		if f := plan.Check(p); f != e {
			t.Fatalf("%v: Check says %d, Build %d", p, f, e)
		}
		if e != api.OK && (a.Size != 0 || len(a.Best) != 0 || len(a.Edges) != 0) {
			t.Fatalf("%v: %v comes with %d", p, a, e)
		}
		if e == api.OK {
			lawful(t, p, a)
		}
	}
}
