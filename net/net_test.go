package net_test

import (
	"math"
	"reflect"
	"slices"
	"testing"

	"signpost/algebra"
	"signpost/api"
	"signpost/net"
	"signpost/plan"
)

// built algebra of a plan.
func built(p api.Plan) api.Algebra {
	a, e := plan.Build(p)
	if e != api.OK {
		panic(e)
	}
	return a
}

func hops(n int, costs ...int) api.Algebra {
	return built(api.Plan{Kind: api.PlanHops, N: n, Edges: costs})
}

func wide(n int, widths ...int) api.Algebra {
	return built(api.Plan{Kind: api.PlanWide, N: n, Edges: widths})
}

// pair of nodes with a link each: that of the document's third example.
func pair() api.Net {
	return api.Net{Algebra: hops(1, 1), Nodes: 2, Links: []api.Link{{From: 0, To: 1}, {From: 1, To: 0}}}
}

// turned: that pair with something done to it.
func turned(do func(n *api.Net)) api.Net {
	n := pair()
	do(&n)
	return n
}

// with these links instead of its own.
func with(links ...api.Link) api.Net {
	return turned(func(n *api.Net) { n.Links = links })
}

type wrong struct {
	name string
	n    api.Net
	want api.Errno
}

// wrongs: nets that are none, and what is told of them; where several errors apply, the one that C1 names first.
func wrongs() []wrong {
	none, same, twice := api.Link{From: 2, To: 0}, api.Link{From: 1, To: 1}, api.Link{From: 0, To: 1}
	return []wrong{
		{"nothing", api.Net{}, api.ErrRange},
		{"an algebra's size", turned(func(n *api.Net) { n.Algebra.Size = 25 }), api.ErrRange},
		{"an algebra's edges", turned(func(n *api.Net) { n.Algebra.Edges = make([][]int, 9) }), api.ErrMany},
		{"an algebra's form", turned(func(n *api.Net) { n.Algebra.Best = nil }), api.ErrForm},
		{"an algebra's routes", turned(func(n *api.Net) { n.Algebra.Edges[0][0] = 3 }), api.ErrNone},
		{"the algebra ahead of nodes", turned(func(n *api.Net) { n.Algebra.Best, n.Nodes = nil, 0 }), api.ErrForm},
		{"the algebra ahead of laws", turned(func(n *api.Net) { n.Algebra.Best[0][1], n.Algebra.Edges[0][0] = 1, 3 }), api.ErrNone},
		{"the first law", turned(func(n *api.Net) { n.Algebra.Best[0][1] = 1 }), api.ErrState},
		{"the last law", turned(func(n *api.Net) { n.Algebra.Edges[0][1] = 0 }), api.ErrState},
		{"laws ahead of nodes", turned(func(n *api.Net) { n.Algebra.Edges[0][2], n.Nodes = 1, 7 }), api.ErrState},
		{"laws ahead of links", turned(func(n *api.Net) { n.Algebra.Edges[0][2], n.Links[0] = 1, none }), api.ErrState},
		{"no node", turned(func(n *api.Net) { n.Nodes, n.Links = 0, nil }), api.ErrRange},
		{"seven nodes", turned(func(n *api.Net) { n.Nodes = 7 }), api.ErrRange},
		{"nodes below 0", turned(func(n *api.Net) { n.Nodes = -1 }), api.ErrRange},
		{"least nodes", turned(func(n *api.Net) { n.Nodes = math.MinInt }), api.ErrRange},
		{"most nodes", turned(func(n *api.Net) { n.Nodes = math.MaxInt }), api.ErrRange},
		{"nodes ahead of links", turned(func(n *api.Net) { n.Nodes, n.Links[0] = 7, same }), api.ErrRange},
		{"From is no node", with(none), api.ErrNone},
		{"From below 0", with(api.Link{From: -1, To: 0}), api.ErrNone},
		{"greatest From", with(api.Link{From: math.MaxInt, To: 0}), api.ErrNone},
		{"To is no node", with(api.Link{From: 0, To: 2}), api.ErrNone},
		{"least To", with(api.Link{From: 0, To: math.MinInt}), api.ErrNone},
		{"no edge", with(api.Link{From: 0, To: 1, Edge: 1}), api.ErrNone},
		{"an edge below 0", with(api.Link{From: 0, To: 1, Edge: -1}), api.ErrNone},
		{"an algebra without edges", turned(func(n *api.Net) { n.Algebra.Edges = nil }), api.ErrNone},
		{"the last link is none", with(twice, api.Link{From: 1, To: 0, Edge: 1}), api.ErrNone},
		{"no node ahead of the same one", with(api.Link{From: 2, To: 2}), api.ErrNone},
		{"no edge ahead of the same node", with(api.Link{From: 1, To: 1, Edge: 1}), api.ErrNone},
		{"no edge ahead of twice", with(twice, api.Link{From: 0, To: 1, Edge: 1}), api.ErrNone},
		{"the same node", with(same), api.ErrForm},
		{"the same node twice", with(same, same), api.ErrForm},
		{"twice", with(twice, twice), api.ErrTwice},
		{"twice, with one between", with(twice, api.Link{From: 1, To: 0}, twice), api.ErrTwice},
		{"twice by another edge", turned(func(n *api.Net) {
			n.Algebra = hops(1, 1, 1)
			n.Links = append(n.Links, api.Link{From: 1, To: 0, Edge: 1})
		}), api.ErrTwice},
		{"the first link: none", with(none, same, twice, twice), api.ErrNone},
		{"the first link: the same node", with(twice, same, none, twice), api.ErrForm},
		{"the first link: twice", with(twice, twice, none, same), api.ErrTwice},
		{"more links than there can be", with(make([]api.Link, 1000)...), api.ErrForm},
	}
}

// full net: each node has a link to each other one.
func full(a api.Algebra, nodes int) api.Net {
	n := api.Net{Algebra: a, Nodes: nodes}
	for i := range nodes {
		for k := range nodes {
			if i != k {
				n.Links = append(n.Links, api.Link{From: i, To: k, Edge: (i + k) % len(a.Edges)})
			}
		}
	}
	return n
}

// rights: nets at the edges of what is right.
func rights() map[string]api.Net {
	return map[string]api.Net{
		"the pair":            pair(),
		"one node":            {Algebra: hops(1, 1), Nodes: 1},
		"no edge":             {Algebra: hops(1), Nodes: 3, Links: []api.Link{}},
		"one way":             with(api.Link{From: 1, To: 0}),
		"least size":          {Algebra: api.Algebra{Size: 2, Best: [][]int{{0, 0}, {0, 1}}, Edges: [][]int{{1, 1}}}, Nodes: 2, Links: []api.Link{{From: 0, To: 1}}},
		"all nodes and links": full(hops(22, 1, 2, 3, 4, 5, 6, 7, 22), 6),
		"it is not strict":    full(wide(2, 1, 2), 3),
		"it does not settle":  {Algebra: wide(1, 1), Nodes: 3, Links: []api.Link{{From: 0, To: 1}, {From: 1, To: 0}}},
		"another order":       full(api.Algebra{Size: 4, Best: [][]int{{0, 0, 0, 0}, {0, 1, 2, 1}, {0, 2, 2, 2}, {0, 1, 2, 3}}, Edges: [][]int{{1, 3, 1, 3}, {2, 3, 3, 3}}}, 3),
	}
}

// filled: a state with the same route everywhere.
func filled(nodes, route int) [][]int {
	var out [][]int
	for range nodes {
		out = append(out, slices.Repeat([]int{route}, nodes))
	}
	return out
}

// C1
func TestCheck(t *testing.T) {
	for _, w := range wrongs() {
		if e := net.Check(w.n); e != w.want {
			t.Errorf("%s: %d, and must be %d", w.name, e, w.want)
		}
	}
	for name, n := range rights() {
		if e := net.Check(n); e != api.OK {
			t.Errorf("%s: %d, and must be OK", name, e)
		}
	}
}

// C1, P1: all others tell what Check says first, and nothing else.
func TestCheckComesFirst(t *testing.T) {
	for _, w := range wrongs() {
		if x, e := net.Begin(w.n); len(x) != 0 || e != w.want {
			t.Errorf("Begin of %s: %v %d, and must be %d", w.name, x, e, w.want)
		}
		for _, x := range [][][]int{nil, filled(2, 0), filled(2, 9), filled(7, 0)} {
			if e := net.Fit(w.n, x); e != w.want {
				t.Errorf("Fit of %s: %d, and must be %d", w.name, e, w.want)
			}
			if y, e := net.Round(w.n, x); len(y) != 0 || e != w.want {
				t.Errorf("Round of %s: %v %d, and must be %d", w.name, y, e, w.want)
			}
			for _, most := range []int{-1, 1} {
				if y, k, e := net.Settle(w.n, x, most); len(y) != 0 || k != 0 || e != w.want {
					t.Errorf("Settle of %s: %v %d %d, and must be %d", w.name, y, k, e, w.want)
				}
			}
		}
	}
}

// C2, C4, P1: what is no state; Round and Settle tell it, too, ahead of what else is wrong.
func TestFit(t *testing.T) {
	for _, c := range []struct {
		name string
		x    [][]int
		want api.Errno
	}{
		{"right", [][]int{{0, 1}, {2, 0}}, api.OK},
		{"a node's own route is anything", [][]int{{2, 1}, {2, 1}}, api.OK},
		{"nothing", nil, api.ErrForm},
		{"no row", [][]int{}, api.ErrForm},
		{"a row too few", [][]int{{0, 0}}, api.ErrForm},
		{"a row too many", [][]int{{0, 0}, {0, 0}, {0, 0}}, api.ErrForm},
		{"an empty row", [][]int{nil, {0, 0}}, api.ErrForm},
		{"a short row", [][]int{{0, 0}, {0}}, api.ErrForm},
		{"a long row", [][]int{{0, 0, 0}, {0, 0}}, api.ErrForm},
		{"form ahead of a route", [][]int{{0, 3}, {0}}, api.ErrForm},
		{"rows ahead of a route", [][]int{{-1, 3}, {0, 0}, {0, 0}}, api.ErrForm},
		{"above", [][]int{{0, 0}, {0, 3}}, api.ErrNone},
		{"below", [][]int{{-1, 0}, {0, 0}}, api.ErrNone},
		{"the least", [][]int{{0, math.MinInt}, {0, 0}}, api.ErrNone},
		{"the greatest", [][]int{{0, 0}, {math.MaxInt, 0}}, api.ErrNone},
	} {
		if e := net.Fit(pair(), c.x); e != c.want {
			t.Errorf("%s: %d, and must be %d", c.name, e, c.want)
		}
		y, e := net.Round(pair(), c.x)
		if e != c.want || e != api.OK && len(y) != 0 {
			t.Errorf("Round of %s: %v %d, and must be %d", c.name, y, e, c.want)
		}
		for _, most := range []int{-1, 1, 1001} {
			if z, k, e := net.Settle(pair(), c.x, most); c.want != api.OK && (e != c.want || len(z) != 0 || k != 0) {
				t.Errorf("Settle of %s: %v %d %d, and must be %d", c.name, z, k, e, c.want)
			}
		}
	}
}

// C3, C4: the third example of the document.
func TestExample(t *testing.T) {
	x, e := net.Begin(pair())
	if want := [][]int{{0, 2}, {2, 0}}; e != api.OK || !reflect.DeepEqual(x, want) {
		t.Errorf("Begin: %v %d, and must be %v", x, e, want)
	}
	y, k, e := net.Settle(pair(), x, 1000)
	if want := [][]int{{0, 1}, {1, 0}}; e != api.OK || k != 1 || !reflect.DeepEqual(y, want) {
		t.Errorf("Settle: %v %d %d, and must be %v by 1", y, k, e, want)
	}
}

// C3: Begin of nets of all sizes.
func TestBegin(t *testing.T) {
	for name, n := range rights() {
		x, e := net.Begin(n)
		if e != api.OK || net.Fit(n, x) != api.OK {
			t.Fatalf("%s: %v %d", name, x, e)
		}
		for i := range x {
			for j, r := range x[i] {
				if i == j && r != 0 || i != j && r != n.Algebra.Size-1 {
					t.Errorf("%s: %d has %d to %d", name, i, r, j)
				}
			}
		}
	}
}

// C3: rounds told out whole.
func TestRound(t *testing.T) {
	line := []api.Link{{From: 0, To: 1}, {From: 1, To: 2, Edge: 1}}
	fork := []api.Link{{From: 0, To: 2}, {From: 0, To: 1, Edge: 1}}
	odd := rights()["another order"].Algebra
	for _, c := range []struct {
		name    string
		n       api.Net
		x, want [][]int
	}{
		{"all look at once", api.Net{Algebra: hops(3, 1, 2), Nodes: 3, Links: line}, [][]int{{0, 4, 4}, {4, 0, 4}, {4, 4, 0}}, [][]int{{0, 1, 4}, {4, 0, 2}, {4, 4, 0}}},
		{"what a node has of its own does not count", api.Net{Algebra: hops(3, 1, 2), Nodes: 3, Links: line}, filled(3, 0), [][]int{{0, 1, 1}, {2, 0, 2}, {4, 4, 0}}},
		{"the best of two links", api.Net{Algebra: hops(3, 1, 2), Nodes: 3, Links: fork}, [][]int{{3, 3, 3}, {1, 1, 0}, {1, 1, 3}}, [][]int{{0, 2, 2}, {4, 0, 4}, {4, 4, 0}}},
		{"best is not the lesser one", api.Net{Algebra: odd, Nodes: 3, Links: fork}, [][]int{{3, 3, 3}, {1, 0, 0}, {2, 0, 2}}, [][]int{{0, 2, 2}, {3, 0, 3}, {3, 3, 0}}},
		{"no link", api.Net{Algebra: hops(1), Nodes: 2}, filled(2, 1), [][]int{{0, 2}, {2, 0}}},
		{"one node", api.Net{Algebra: hops(1), Nodes: 1}, filled(1, 2), filled(1, 0)},
	} {
		if y, e := net.Round(c.n, c.x); e != api.OK || !reflect.DeepEqual(y, c.want) {
			t.Errorf("%s: %v %d, and must be %v", c.name, y, e, c.want)
		}
	}
}

// C4: how many rounds are made, and counted.
func TestSettle(t *testing.T) {
	swings := rights()["it does not settle"]
	left, right := [][]int{{0, 1, 1}, {1, 0, 2}, {2, 2, 0}}, [][]int{{0, 1, 2}, {1, 0, 1}, {2, 2, 0}}
	// Nodes 0 and 1 have a route to node 2 from each other alone: it climbs to the invalid one, a step a round.
	climbs := api.Net{Algebra: hops(3, 1), Nodes: 3, Links: []api.Link{{From: 0, To: 1}, {From: 1, To: 0}}}
	low := [][]int{{0, 1, 0}, {1, 0, 0}, {4, 4, 0}}
	at := func(r int) [][]int { return [][]int{{0, 1, r}, {1, 0, r}, {4, 4, 0}} }
	for _, c := range []struct {
		name       string
		n          api.Net
		x          [][]int
		most       int
		want       [][]int
		wantRounds int
		wantErr    api.Errno
	}{
		{"below 0", climbs, low, -1, nil, 0, api.ErrRange},
		{"the least", climbs, low, math.MinInt, nil, 0, api.ErrRange},
		{"above 1000", climbs, low, 1001, nil, 0, api.ErrRange},
		{"the greatest", climbs, low, math.MaxInt, nil, 0, api.ErrRange},
		{"none", climbs, low, 0, low, 0, api.OK},
		{"one", climbs, low, 1, at(1), 1, api.OK},
		{"one too few", climbs, low, 3, at(3), 3, api.OK},
		{"just as many as change something", climbs, low, 4, at(4), 4, api.OK},
		{"one more", climbs, low, 5, at(4), 4, api.OK},
		{"many more", climbs, low, 1000, at(4), 4, api.OK},
		{"settled already", climbs, at(4), 1, at(4), 0, api.OK},
		{"it swings", swings, left, 999, right, 999, api.OK},
		{"it swings, the most", swings, left, 1000, left, 1000, api.OK},
	} {
		y, k, e := net.Settle(c.n, c.x, c.most)
		if e != c.wantErr || k != c.wantRounds || len(y) != len(c.want) || len(y) > 0 && !reflect.DeepEqual(y, c.want) {
			t.Errorf("%s: %v %d %d, and must be %v %d %d", c.name, y, k, e, c.want, c.wantRounds, c.wantErr)
		}
	}
}

// draw: numbers, the same each time.
type draw uint64

func (d *draw) n(n int) int {
	*d = *d*6364136223846793005 + 1442695040888963407
	return int(uint64(*d) >> 33 % uint64(n))
}

// order of routes, the best one first: 0, then some order, then the invalid one.
func (d *draw) order(size int) []int {
	out := make([]int, size)
	for i := range out {
		out[i] = i
	}
	for i := size - 2; i > 1; i-- {
		k := 1 + d.n(i)
		out[i], out[k] = out[k], out[i]
	}
	return out
}

// some algebra that breaks no law: an order of routes, and edges that go on in it (strict: never stay); and at which place of that order each route is.
func some(d *draw, strict bool) (api.Algebra, []int) {
	size := 2 + d.n(7)
	if d.n(8) == 0 {
		size = api.MaxSize
	}
	order, place := d.order(size), make([]int, size)
	for i, r := range order {
		place[r] = i
	}
	a := api.Algebra{Size: size}
	for x := range size {
		row := make([]int, size)
		for y := range row {
			row[y] = order[min(place[x], place[y])]
		}
		a.Best = append(a.Best, row)
	}
	even := d.n(2) == 0
	for range 1 + d.n(3) {
		a.Edges = append(a.Edges, edge(d, order, strict, even))
	}
	return a, place
}

// edge that goes on in an order of routes; an even one never falls back behind what it made of a better route.
func edge(d *draw, order []int, strict, even bool) []int {
	size := len(order)
	out := make([]int, size)
	out[order[size-1]] = order[size-1]
	far := 0
	for i := range size - 1 {
		least := i
		if strict {
			least = i + 1
		}
		if even {
			least = max(least, far)
		}
		far = min(least+d.n(3), size-1)
		if !even && d.n(4) == 0 {
			far = least + d.n(size-least)
		}
		out[order[i]] = order[far]
	}
	return out
}

// someNet with that algebra.
func someNet(d *draw, a api.Algebra) api.Net {
	n := api.Net{Algebra: a, Nodes: 1 + d.n(api.MaxNodes)}
	dense := 1 + d.n(4)
	for i := range n.Nodes {
		for k := range n.Nodes {
			if i != k && d.n(5) < dense {
				n.Links = append(n.Links, api.Link{From: i, To: k, Edge: d.n(len(a.Edges))})
			}
		}
	}
	for i := range n.Links {
		k := d.n(i + 1)
		n.Links[i], n.Links[k] = n.Links[k], n.Links[i]
	}
	return n
}

// someState of a net.
func someState(d *draw, n api.Net) [][]int {
	out := filled(n.Nodes, 0)
	for i := range out {
		for j := range out[i] {
			out[i][j] = d.n(n.Algebra.Size)
		}
	}
	return out
}

// looked: a round by the places of routes alone.
func looked(n api.Net, place []int, x [][]int) [][]int {
	out := filled(n.Nodes, n.Algebra.Size-1)
	take := func(i, j, r int) {
		if place[r] < place[out[i][j]] {
			out[i][j] = r
		}
	}
	for j := range n.Nodes {
		take(j, j, 0)
		for _, l := range n.Links {
			take(l.From, j, n.Algebra.Edges[l.Edge][x[l.To][j]])
		}
	}
	return out
}

// C3, C4: rounds of nets of all kinds, strict or not.
func TestRoundsOfSome(t *testing.T) {
	d := draw(11)
	for i := range 600 {
		a, place := some(&d, i%2 == 0)
		n := someNet(&d, a)
		if e := net.Check(n); e != api.OK {
			t.Fatalf("%v: %d", n, e)
		}
		x := someState(&d, n)
		now, changes := x, 0
		for most := range 5 {
			y, k, e := net.Settle(n, x, most)
			if e != api.OK || k != changes || !reflect.DeepEqual(y, now) {
				t.Fatalf("Settle of %v, %v, %d: %v %d %d, and must be %v %d", n, x, most, y, k, e, now, changes)
			}
			want := looked(n, place, now)
			if y, e := net.Round(n, now); e != api.OK || !reflect.DeepEqual(y, want) {
				t.Fatalf("Round of %v, %v: %v %d, and must be %v", n, now, y, e, want)
			}
			if !reflect.DeepEqual(now, want) {
				changes++
			}
			now = want
		}
	}
}

// lightest: the best of what all paths without a node twice make of the trivial route at their end; a link's edge comes behind those of the links beyond it.
func lightest(n api.Net, place []int, i, j int) int {
	best := n.Algebra.Size - 1
	if i == j {
		best = 0
	}
	var walk func(at, r int, met []int)
	walk = func(at, r int, met []int) {
		if at == i && place[r] < place[best] {
			best = r
		}
		for _, l := range n.Links {
			if l.To == at && !slices.Contains(met, l.From) {
				walk(l.From, n.Algebra.Edges[l.Edge][r], append(slices.Clone(met), l.From))
			}
		}
	}
	walk(j, 0, []int{j})
	return best
}

// C5: a strict net settles by at most Size rounds, from whatever state, to the same one; if it is distributive, that one has the best of all paths.
func TestStrictSettles(t *testing.T) {
	d := draw(12)
	evens, odds, longest := 0, 0, 0
	for range 300 {
		a, place := some(&d, true)
		if b, e := algebra.Strict(a); e != api.OK || b.Law != api.LawNone {
			t.Fatalf("%v is not strict: %v", a, b)
		}
		n := someNet(&d, a)
		begin, _ := net.Begin(n)
		want, k, e := net.Settle(n, begin, 1000)
		if e != api.OK || k > a.Size {
			t.Fatalf("%v from the beginning: %d rounds, %d", n, k, e)
		}
		states := [][][]int{filled(n.Nodes, 0), filled(n.Nodes, a.Size-1)}
		for range 5 {
			states = append(states, someState(&d, n))
		}
		for _, x := range states {
			y, k, e := net.Settle(n, x, a.Size)
			if e != api.OK || k > a.Size || !reflect.DeepEqual(y, want) {
				t.Fatalf("%v from %v: %v %d %d, and must be %v", n, x, y, k, e, want)
			}
			longest = max(longest, k)
		}
		if y, e := net.Round(n, want); e != api.OK || !reflect.DeepEqual(y, want) {
			t.Fatalf("%v: %v has not settled: %v %d", n, want, y, e)
		}
		if b, _ := algebra.Distributive(a); b.Law != api.LawNone {
			odds++
			continue
		}
		evens++
		for i := range n.Nodes {
			for j := range n.Nodes {
				if r := lightest(n, place, i, j); want[i][j] != r {
					t.Fatalf("%v: %d has %d to %d, and the best path %d", n, i, want[i][j], j, r)
				}
			}
		}
	}
	if evens < 50 || odds < 50 || longest < 10 {
		t.Errorf("%d distributive nets, %d others, %d rounds at most", evens, odds, longest)
	}
}

// roomy: the same numbers, with spare room behind each list.
func roomy(rows [][]int) [][]int {
	out := make([][]int, 0, len(rows)+2)
	for _, r := range rows {
		out = append(out, append(append(make([]int, 0, len(r)+2), r...), 88, 88)[:len(r)])
	}
	return append(out, []int{77}, []int{77})[:len(rows)]
}

// roomyNet: the same net, with spare room behind each list.
func roomyNet(n api.Net) api.Net {
	n.Algebra.Best, n.Algebra.Edges = roomy(n.Algebra.Best), roomy(n.Algebra.Edges)
	links := append(make([]api.Link, 0, len(n.Links)+2), n.Links...)
	n.Links = append(links, api.Link{From: 66}, api.Link{From: 66})[:len(n.Links)]
	return n
}

// whole: a copy of all that lies in lists, and behind them.
func whole(n api.Net, x [][]int) []any {
	var out []any
	for _, rows := range [][][]int{n.Algebra.Best, n.Algebra.Edges, x} {
		for _, r := range rows[:cap(rows)] {
			out = append(out, len(r), slices.Clone(r[:cap(r)]))
		}
	}
	return append(out, n.Algebra.Size, n.Nodes, len(n.Links), slices.Clone(n.Links[:cap(n.Links)]))
}

// P2: what is handed in is only read.
func TestOnlyRead(t *testing.T) {
	d := draw(13)
	for name, n := range rights() {
		n = roomyNet(n)
		x := roomy(someState(&d, n))
		before := whole(n, x)
		net.Check(n)
		net.Fit(n, x)
		net.Begin(n)
		net.Round(n, x)
		for _, most := range []int{-1, 0, 1, 50} {
			net.Settle(n, x, most)
		}
		if !reflect.DeepEqual(whole(n, x), before) {
			t.Errorf("%s was changed", name)
		}
	}
}

// answers that have a state, of a net and a state.
func answers(n api.Net, x [][]int) map[string][][]int {
	out := map[string][][]int{}
	out["Begin"], _ = net.Begin(n)
	out["Round"], _ = net.Round(n, x)
	for name, most := range map[string]int{"Settle 0": 0, "Settle 1": 1, "Settle 50": 50} {
		out[name], _, _ = net.Settle(n, x, most)
	}
	return out
}

// P2: each list that comes is memory of its own, the room behind it too, though the rows that were handed in are one.
func TestOwnMemory(t *testing.T) {
	for name, n := range rights() {
		row := slices.Repeat([]int{n.Algebra.Size - 1}, n.Nodes)
		x := slices.Repeat([][]int{row}, n.Nodes)
		settled, _, _ := net.Settle(n, x, 1000)
		for _, y := range [][][]int{x, settled} {
			before := whole(n, y)
			for call, out := range answers(n, y) {
				for i, l := range out {
					for k := range l[:cap(l)] {
						l[:cap(l)][k] = 1000 + i
					}
				}
				for i, l := range out {
					if slices.ContainsFunc(l, func(r int) bool { return r != 1000+i }) {
						t.Errorf("%s of %s: rows share memory", call, name)
					}
				}
				clear(out[:cap(out)])
			}
			if !reflect.DeepEqual(whole(n, y), before) {
				t.Errorf("%s: an answer shares memory with what was handed in", name)
			}
		}
	}
}

// P2, P3: the same comes each time, whatever was asked between; a later change of what was handed in is not seen in it.
func TestSameEachTime(t *testing.T) {
	d := draw(14)
	for name, n := range rights() {
		n = roomyNet(n)
		x := someState(&d, n)
		first := answers(n, x)
		for _, w := range wrongs() {
			net.Settle(w.n, x, 1)
		}
		for _, m := range rights() {
			answers(m, filled(m.Nodes, 0))
		}
		second := answers(n, x)
		for _, row := range append(slices.Concat(n.Algebra.Best, n.Algebra.Edges), x...) {
			clear(row)
		}
		clear(n.Links)
		if !reflect.DeepEqual(first, second) {
			t.Errorf("%s: %v, then %v", name, first, second)
		}
		if third := answers(rights()[name], second["Settle 0"]); !reflect.DeepEqual(first, third) {
			t.Errorf("%s: %v, then %v", name, first, third)
		}
	}
}

// P1: whatever is handed in, each call ends, and with an error nothing else comes.
func TestWhatever(t *testing.T) {
	d := draw(15)
	numbers := []int{math.MinInt, -1, 0, 0, 0, 1, 1, 1, 2, 2, 3, 6, 7, math.MaxInt}
	number := func() int { return numbers[d.n(len(numbers))] }
	names := []string{"the pair", "one node", "no edge", "another order"}
	all, right := rights(), 0
	for range 20000 {
		n := all[names[d.n(len(names))]]
		if d.n(4) == 0 {
			n.Nodes = number()
		}
		if d.n(2) == 0 {
			n.Links = nil
		}
		for range d.n(3) {
			n.Links = append(n.Links[:len(n.Links):len(n.Links)], api.Link{From: number(), To: number(), Edge: number()})
		}
		x := filled(2+d.n(2), number())
		if d.n(4) == 0 {
			x[d.n(2)] = []int{number(), number()}
		}
		most := number()
		y, k, e := net.Settle(n, x, most)
		fit := net.Fit(n, x)
		if fit == api.OK && (most < 0 || most > 1000) {
			fit = api.ErrRange
		}
		if e != fit || e != api.OK && (len(y) != 0 || k != 0) {
			t.Fatalf("%v, %v, %d: %v %d %d, and must be %d", n, x, most, y, k, e, fit)
		}
		if e == api.OK {
			right++
		}
	}
	if right < 500 {
		t.Errorf("only %d were right", right)
	}
}
