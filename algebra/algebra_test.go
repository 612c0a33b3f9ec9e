package algebra_test

import (
	"math"
	"reflect"
	"testing"

	"signpost/algebra"
	"signpost/api"
)

// lesser of two routes is best.
func lesser(size int) [][]int {
	out := make([][]int, size)
	for i := range out {
		for k := range size {
			out[i] = append(out[i], min(i, k))
		}
	}
	return out
}

// line of routes: the lesser is best, one edge goes to the next one.
func line(size int) api.Algebra {
	edge := make([]int, size)
	for i := range edge {
		edge[i] = min(i+1, size-1)
	}
	return api.Algebra{Size: size, Best: lesser(size), Edges: [][]int{edge}}
}

// turned: a line of routes with something done to it.
func turned(size int, do func(a *api.Algebra)) api.Algebra {
	a := line(size)
	do(&a)
	return a
}

type wrong struct {
	name string
	a    api.Algebra
	want api.Errno
}

// wrongs: algebras that are none, and what is told of them; where several errors apply, the one that A1 names first.
func wrongs() []wrong {
	return []wrong{
		{"nothing", api.Algebra{}, api.ErrRange},
		{"size 1", api.Algebra{Size: 1, Best: lesser(1)}, api.ErrRange},
		{"size 25", line(25), api.ErrRange},
		{"size below 0", turned(3, func(a *api.Algebra) { a.Size = -3 }), api.ErrRange},
		{"least size", turned(3, func(a *api.Algebra) { a.Size = math.MinInt }), api.ErrRange},
		{"greatest size", turned(3, func(a *api.Algebra) { a.Size = math.MaxInt }), api.ErrRange},
		{"size ahead of edges", turned(25, func(a *api.Algebra) { a.Edges = make([][]int, 9) }), api.ErrRange},
		{"nine edges", turned(3, func(a *api.Algebra) {
			for range 8 {
				a.Edges = append(a.Edges, []int{1, 2, 2})
			}
		}), api.ErrMany},
		{"edges ahead of form", turned(3, func(a *api.Algebra) { a.Best, a.Edges = nil, make([][]int, 9) }), api.ErrMany},
		{"no Best", turned(3, func(a *api.Algebra) { a.Best = nil }), api.ErrForm},
		{"a row too few", turned(3, func(a *api.Algebra) { a.Best = a.Best[:2] }), api.ErrForm},
		{"a row too many", turned(3, func(a *api.Algebra) { a.Best = append(a.Best, []int{0, 1, 2}) }), api.ErrForm},
		{"a short row", turned(3, func(a *api.Algebra) { a.Best[2] = a.Best[2][:2] }), api.ErrForm},
		{"a long row", turned(3, func(a *api.Algebra) { a.Best[0] = append(a.Best[0], 0) }), api.ErrForm},
		{"an empty row", turned(3, func(a *api.Algebra) { a.Best[1] = nil }), api.ErrForm},
		{"a short edge", turned(3, func(a *api.Algebra) { a.Edges[0] = a.Edges[0][:2] }), api.ErrForm},
		{"a long edge", turned(3, func(a *api.Algebra) { a.Edges[0] = append(a.Edges[0], 2) }), api.ErrForm},
		{"an empty edge", turned(3, func(a *api.Algebra) { a.Edges = append(a.Edges, nil) }), api.ErrForm},
		{"an edge's form ahead of a route", turned(3, func(a *api.Algebra) { a.Best[0][0], a.Edges[0] = 9, nil }), api.ErrForm},
		{"a row's form ahead of a route", turned(3, func(a *api.Algebra) { a.Best[0][0], a.Best[2] = -1, nil }), api.ErrForm},
		{"no route in Best, below", turned(3, func(a *api.Algebra) { a.Best[2][2] = -1 }), api.ErrNone},
		{"no route in Best, above", turned(3, func(a *api.Algebra) { a.Best[0][1] = 3 }), api.ErrNone},
		{"no route in an edge, below", turned(3, func(a *api.Algebra) { a.Edges[0][2] = math.MinInt }), api.ErrNone},
		{"no route in an edge, above", turned(3, func(a *api.Algebra) { a.Edges[0][0] = 3 }), api.ErrNone},
	}
}

// A1
func TestCheck(t *testing.T) {
	for _, w := range wrongs() {
		if e := algebra.Check(w.a); e != w.want {
			t.Errorf("%s: %d, and must be %d", w.name, e, w.want)
		}
	}
	rights := map[string]api.Algebra{
		"least size":    line(2),
		"greatest size": line(24),
		"no edge":       {Size: 2, Best: lesser(2)},
		"empty edges":   {Size: 2, Best: lesser(2), Edges: [][]int{}},
		"eight edges": turned(3, func(a *api.Algebra) {
			for range 7 {
				a.Edges = append(a.Edges, []int{2, 2, 2})
			}
		}),
		"laws are not asked": {Size: 2, Best: [][]int{{1, 0}, {1, 0}}, Edges: [][]int{{1, 0}}},
	}
	for name, a := range rights {
		if e := algebra.Check(a); e != api.OK {
			t.Errorf("%s: %d, and must be OK", name, e)
		}
	}
}

// A1, P1: all others tell what Check says first, and nothing else.
func TestCheckComesFirst(t *testing.T) {
	for _, w := range wrongs() {
		if b, e := algebra.Laws(w.a); b != (api.Broken{}) || e != w.want {
			t.Errorf("Laws of %s: %v %d, and must be %d", w.name, b, e, w.want)
		}
		if b, e := algebra.Strict(w.a); b != (api.Broken{}) || e != w.want {
			t.Errorf("Strict of %s: %v %d, and must be %d", w.name, b, e, w.want)
		}
		if b, e := algebra.Distributive(w.a); b != (api.Broken{}) || e != w.want {
			t.Errorf("Distributive of %s: %v %d, and must be %d", w.name, b, e, w.want)
		}
		for _, told := range []api.Broken{{Law: api.LawSwap}, {Law: api.LawFixed}, {}, {Law: 10}, {Law: api.LawSwap, C: 1}} {
			if ok, e := algebra.Holds(w.a, told); ok || e != w.want {
				t.Errorf("Holds of %s, %v: %v %d, and must be %d", w.name, told, ok, e, w.want)
			}
		}
	}
}

// The first example of the document.
func TestExample(t *testing.T) {
	a := api.Algebra{Size: 3, Best: lesser(3), Edges: [][]int{{1, 2, 2}}}
	for name, call := range calls() {
		if b, e := call(a); b != (api.Broken{}) || e != api.OK {
			t.Errorf("%s: %v %d, and must be nothing", name, b, e)
		}
	}
	a.Edges[0] = []int{0, 1, 2}
	if b, e := algebra.Laws(a); b != (api.Broken{}) || e != api.OK {
		t.Errorf("Laws: %v %d, and must be nothing", b, e)
	}
	if b, e := algebra.Strict(a); b != (api.Broken{Law: api.LawStrict}) || e != api.OK {
		t.Errorf("Strict: %v %d, and must be broken by 0", b, e)
	}
}

// calls that answer what is broken, by their names.
func calls() map[string]func(api.Algebra) (api.Broken, api.Errno) {
	return map[string]func(api.Algebra) (api.Broken, api.Errno){
		"Laws": algebra.Laws, "Strict": algebra.Strict, "Distributive": algebra.Distributive,
	}
}

// A2: each law broken, by what is told first.
func TestBroken(t *testing.T) {
	two := func(a *api.Algebra) { a.Edges = append([][]int{{1, 2, 3, 3}}, a.Edges...) }
	for _, c := range []struct {
		name, call string
		a          api.Algebra
		want       api.Broken
	}{
		{"swap", "Laws", turned(4, func(a *api.Algebra) { a.Best[3][1], a.Best[3][2] = 3, 3 }), api.Broken{Law: api.LawSwap, A: 1, B: 3}},
		{"order", "Laws", turned(5, func(a *api.Algebra) { a.Best[1][3], a.Best[3][1] = 3, 3 }), api.Broken{Law: api.LawOrder, A: 1, B: 2, C: 3}},
		{"select", "Laws", turned(4, func(a *api.Algebra) { a.Best[2][2] = 1 }), api.Broken{Law: api.LawSelect, A: 2, B: 2}},
		{"trivial", "Laws", api.Algebra{Size: 3, Best: [][]int{{0, 1, 0}, {1, 1, 1}, {0, 1, 2}}}, api.Broken{Law: api.LawTrivial, A: 1}},
		{"invalid", "Laws", api.Algebra{Size: 3, Best: [][]int{{0, 0, 0}, {0, 1, 2}, {0, 2, 2}}}, api.Broken{Law: api.LawInvalid, A: 1}},
		{"fixed", "Laws", turned(4, func(a *api.Algebra) { two(a); a.Edges[1][3] = 2 }), api.Broken{Law: api.LawFixed, Edge: 1}},
		{"increase", "Laws", turned(4, func(a *api.Algebra) { two(a); a.Edges[1][2] = 1 }), api.Broken{Law: api.LawIncrease, A: 2, Edge: 1}},
		{"increase: the route ahead of the edge", "Laws", turned(4, func(a *api.Algebra) { two(a); a.Edges[0][2], a.Edges[1][1] = 1, 0 }), api.Broken{Law: api.LawIncrease, A: 1, Edge: 1}},
		{"strict: the same route", "Strict", turned(4, func(a *api.Algebra) { two(a); a.Edges[1][2] = 2 }), api.Broken{Law: api.LawStrict, A: 2, Edge: 1}},
		{"strict: a better route", "Strict", turned(4, func(a *api.Algebra) { a.Edges[0][2] = 1 }), api.Broken{Law: api.LawStrict, A: 2}},
		{"strict: not asked of the invalid one", "Strict", turned(4, func(a *api.Algebra) { a.Edges[0][3] = 1 }), api.Broken{}},
		{"distribute", "Distributive", turned(4, func(a *api.Algebra) { two(a); a.Edges[1] = []int{1, 3, 2, 3} }), api.Broken{Law: api.LawDistribute, A: 1, B: 2, Edge: 1}},
		{"laws do not tell of strict", "Laws", turned(4, func(a *api.Algebra) { a.Edges[0] = []int{0, 1, 2, 3} }), api.Broken{}},
		{"laws do not tell of distribute", "Laws", turned(4, func(a *api.Algebra) { a.Edges[0] = []int{1, 3, 3, 3} }), api.Broken{}},
		{"strict does not tell of laws", "Strict", turned(4, func(a *api.Algebra) { a.Best[3][1] = 3 }), api.Broken{}},
		{"the least law", "Laws", turned(4, func(a *api.Algebra) { a.Edges[0][0], a.Edges[0][3], a.Best[0][0] = 0, 0, 1 }), api.Broken{Law: api.LawSelect}},
		{"no edge", "Strict", api.Algebra{Size: 3, Best: lesser(3)}, api.Broken{}},
	} {
		if b, e := calls()[c.call](c.a); b != c.want || e != api.OK {
			t.Errorf("%s: %v %d, and must be %v", c.name, b, e, c.want)
		}
	}
}

// law as api tells it, of whatever routes and edge.
func law(g api.Algebra, number, a, b, c, edge int) bool {
	invalid := g.Size - 1
	switch number {
	case 1:
		return g.Best[a][b] == g.Best[b][a]
	case 2:
		return g.Best[a][g.Best[b][c]] == g.Best[g.Best[a][b]][c]
	case 3:
		return g.Best[a][b] == a || g.Best[a][b] == b
	case 4:
		return g.Best[0][a] == 0
	case 5:
		return g.Best[invalid][a] == a
	}
	f := g.Edges[edge]
	switch number {
	case 6:
		return f[invalid] == invalid
	case 7:
		return g.Best[a][f[a]] == a
	case 8:
		return a == invalid || (f[a] != a && g.Best[a][f[a]] == a)
	}
	return f[g.Best[a][b]] == g.Best[f[a]][f[b]]
}

// What each law names, by its number: how many routes, and whether an edge.
var routesOf = []int{0, 2, 3, 2, 1, 1, 0, 1, 1, 2}
var edgeOf = []bool{6: true, 7: true, 8: true, 9: true}

// plain: the first of these laws that is broken, by loops alone; and how many things were found broken.
func plain(g api.Algebra, from, to int) (api.Broken, int) {
	var first api.Broken
	count := 0
	for n := from; n <= to; n++ {
		for a := range g.Size {
			for b := range g.Size {
				for c := range g.Size {
					for e := range max(len(g.Edges), 1) {
						r := routesOf[n]
						if r < 3 && c > 0 || r < 2 && b > 0 || r < 1 && a > 0 || !edgeOf[n] && e > 0 || edgeOf[n] && len(g.Edges) == 0 {
							continue
						}
						if !law(g, n, a, b, c, e) {
							if count == 0 {
								first = api.Broken{Law: n, A: a, B: b, C: c, Edge: e}
							}
							count++
						}
					}
				}
			}
		}
	}
	return first, count
}

// draw: numbers, the same each time.
type draw uint64

func (d *draw) n(n int) int {
	*d = *d*6364136223846793005 + 1442695040888963407
	return int(uint64(*d) >> 33 % uint64(n))
}

// some algebra: mostly right ones of which a few routes were turned, so that each law is met.
func some(d *draw) api.Algebra {
	a := line(2 + d.n(5))
	a.Edges = nil
	for range d.n(4) {
		edge := make([]int, a.Size)
		for i := range edge {
			edge[i] = i + d.n(a.Size-i)
		}
		a.Edges = append(a.Edges, edge)
	}
	for range d.n(3) {
		i, k, r := d.n(a.Size), d.n(a.Size), d.n(a.Size)
		a.Best[i][k] = r
		if d.n(3) > 0 {
			a.Best[k][i] = r
		}
	}
	for range d.n(3) {
		if len(a.Edges) > 0 {
			a.Edges[d.n(len(a.Edges))][d.n(a.Size)] = d.n(a.Size)
		}
	}
	return a
}

// A2, A4: what is told is what loops find, and does not hold; if nothing is told, all hold.
func TestAgainstLoops(t *testing.T) {
	spans := map[string][2]int{"Laws": {1, 7}, "Strict": {8, 8}, "Distributive": {9, 9}}
	met := map[int]int{}
	d := draw(1)
	for range 4000 {
		a := some(&d)
		for name, call := range calls() {
			want, count := plain(a, spans[name][0], spans[name][1])
			b, e := call(a)
			if b != want || e != api.OK {
				t.Fatalf("%s of %v: %v %d, and must be %v", name, a, b, e, want)
			}
			met[b.Law]++
			if count == 0 {
				continue
			}
			if ok, e := algebra.Holds(a, b); ok || e != api.OK {
				t.Fatalf("%v of %v is told to be broken, and holds: %d", b, a, e)
			}
		}
	}
	for n := 0; n <= 9; n++ {
		if met[n] == 0 {
			t.Errorf("law %d was never met", n)
		}
	}
}

// A3: whatever is told of each law, right or not.
func TestHolds(t *testing.T) {
	d := draw(2)
	for range 60 {
		a := some(&d)
		for n := -1; n <= 10; n++ {
			for x := -1; x <= a.Size; x++ {
				for y := -1; y <= a.Size; y++ {
					for z := -1; z <= a.Size; z++ {
						for edge := -1; edge <= len(a.Edges); edge++ {
							b := api.Broken{Law: n, A: x, B: y, C: z, Edge: edge}
							holdsAs(t, a, b)
						}
					}
				}
			}
		}
	}
}

// holdsAs the document asks.
func holdsAs(t *testing.T, a api.Algebra, b api.Broken) {
	want, wantErr := false, api.OK
	if b.Law < 1 || b.Law > 9 {
		wantErr = api.ErrKind
	} else {
		for i, x := range []int{b.A, b.B, b.C} {
			if i < routesOf[b.Law] && (x < 0 || x >= a.Size) || i >= routesOf[b.Law] && x != 0 {
				wantErr = api.ErrRange
			}
		}
		if edgeOf[b.Law] && (b.Edge < 0 || b.Edge >= len(a.Edges)) || !edgeOf[b.Law] && b.Edge != 0 {
			wantErr = api.ErrRange
		}
		if wantErr == api.OK {
			want = law(a, b.Law, b.A, b.B, b.C, b.Edge)
		}
	}
	if ok, e := algebra.Holds(a, b); ok != want || e != wantErr {
		t.Fatalf("Holds of %v, %v: %v %d, and must be %v %d", a, b, ok, e, want, wantErr)
	}
}

// A3: numbers at the ends of their kind; no edge at all.
func TestHoldsEnds(t *testing.T) {
	bare := api.Algebra{Size: 2, Best: lesser(2)}
	for _, c := range []struct {
		b    api.Broken
		want api.Errno
	}{
		{api.Broken{Law: math.MinInt}, api.ErrKind},
		{api.Broken{Law: math.MaxInt, A: -1}, api.ErrKind},
		{api.Broken{Law: api.LawNone}, api.ErrKind},
		{api.Broken{Law: api.LawSwap, A: math.MaxInt}, api.ErrRange},
		{api.Broken{Law: api.LawSwap, B: math.MinInt}, api.ErrRange},
		{api.Broken{Law: api.LawSwap, C: math.MinInt}, api.ErrRange},
		{api.Broken{Law: api.LawSwap, Edge: math.MaxInt}, api.ErrRange},
		{api.Broken{Law: api.LawFixed}, api.ErrRange},
		{api.Broken{Law: api.LawIncrease}, api.ErrRange},
		{api.Broken{Law: api.LawStrict, A: 1}, api.ErrRange},
		{api.Broken{Law: api.LawDistribute}, api.ErrRange},
	} {
		if ok, e := algebra.Holds(bare, c.b); ok || e != c.want {
			t.Errorf("%v: %v %d, and must be %d", c.b, ok, e, c.want)
		}
	}
}

// roomy: the same numbers, with spare room behind each list.
func roomy(rows [][]int) [][]int {
	out := make([][]int, 0, len(rows)+2)
	for _, r := range rows {
		out = append(out, append(make([]int, 0, len(r)+2), r...))
	}
	all := out[:cap(out)]
	for i := range all {
		if all[i] == nil {
			all[i] = []int{77}
		}
		row := all[i][:cap(all[i])]
		for k := len(all[i]); k < len(row); k++ {
			row[k] = 88
		}
	}
	return out
}

// whole: all that lies in lists, and behind them.
func whole(rows [][]int) [][]int {
	var out [][]int
	for _, r := range rows[:cap(rows)] {
		out = append(out, append([]int{len(r)}, r[:cap(r)]...))
	}
	return out
}

// P2, P3: what is handed in is only read, and what comes is the same each time, whatever was asked between.
func TestOnlyRead(t *testing.T) {
	d := draw(3)
	last := line(3)
	for range 200 {
		a := some(&d)
		a.Best, a.Edges = roomy(a.Best), roomy(a.Edges)
		best, edges := whole(a.Best), whole(a.Edges)
		for name, call := range calls() {
			b, e := call(a)
			call(last)
			algebra.Holds(a, api.Broken{Law: api.LawOrder})
			algebra.Check(a)
			if b2, e2 := call(a); b2 != b || e2 != e {
				t.Fatalf("%s of %v: %v %d, then %v %d", name, a, b, e, b2, e2)
			}
		}
		if !reflect.DeepEqual(whole(a.Best), best) || !reflect.DeepEqual(whole(a.Edges), edges) {
			t.Fatalf("%v was changed", a)
		}
		last = a
	}
}

// P3: a later change of what was handed in is seen by no earlier answer, and by each later one.
func TestNothingKept(t *testing.T) {
	a := line(3)
	before, _ := algebra.Laws(a)
	a.Edges[0][1] = 0
	after, _ := algebra.Laws(a)
	if before != (api.Broken{}) || after != (api.Broken{Law: api.LawIncrease, A: 1}) {
		t.Errorf("%v, then %v", before, after)
	}
}
