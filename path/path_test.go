package path_test

import (
	"math"
	"reflect"
	"slices"
	"testing"

	"signpost/api"
	"signpost/net"
	"signpost/path"
	"signpost/plan"
)

// built algebra of a plan.
func built(kind, n int, edges ...int) api.Algebra {
	a, e := plan.Build(api.Plan{Kind: kind, N: n, Edges: edges})
	if e != api.OK {
		panic(e)
	}
	return a
}

// pair of nodes with a link each.
func pair() api.Net {
	return api.Net{Algebra: built(api.PlanHops, 1, 1), Nodes: 2, Links: []api.Link{{From: 0, To: 1}, {From: 1, To: 0}}}
}

// diamond: two ways from 0 to 3, by 2 and by 1, and one back; routes are 0 to 4, and 5, the invalid one.
func diamond() api.Net {
	return api.Net{Algebra: built(api.PlanHops, 4, 1, 2), Nodes: 4, Links: []api.Link{{From: 0, To: 2}, {From: 2, To: 3}, {From: 0, To: 1}, {From: 1, To: 3}, {From: 3, To: 0, Edge: 1}}}
}

// odd: a diamond whose best routes are 0, then 2, then 1, then the invalid one, 3.
func odd() api.Net {
	n := diamond()
	n.Algebra = api.Algebra{Size: 4, Best: [][]int{{0, 0, 0, 0}, {0, 1, 2, 1}, {0, 2, 2, 2}, {0, 1, 2, 3}}, Edges: [][]int{{1, 3, 1, 3}, {2, 3, 3, 3}}}
	return n
}

// swings: nodes 0 and 1 tell each other of a way to node 2 that is none; without paths it never ends, as an edge makes 1 of 1.
func swings() api.Net {
	return api.Net{Algebra: built(api.PlanWide, 1, 1), Nodes: 3, Links: []api.Link{{From: 0, To: 1}, {From: 1, To: 0}}}
}

// rights: nets at the edges of what is right.
func rights() map[string]api.Net {
	lonely, bare := pair(), pair()
	lonely.Nodes, lonely.Links = 1, nil
	bare.Links = []api.Link{}
	full := api.Net{Algebra: built(api.PlanWide, 22, 1, 2, 3, 4, 5, 6, 7, 22), Nodes: 6}
	for i := range 6 {
		for k := range 6 {
			if i != k {
				full.Links = append(full.Links, api.Link{From: i, To: k, Edge: (i + k) % 8})
			}
		}
	}
	least := pair()
	least.Algebra = api.Algebra{Size: 2, Best: [][]int{{0, 0}, {0, 1}}, Edges: [][]int{{0, 1}}}
	return map[string]api.Net{"pair": pair(), "diamond": diamond(), "odd": odd(), "swings": swings(), "one node": lonely, "no link": bare, "all links": full, "least size": least}
}

func route(weight int, path ...int) api.Route { return api.Route{Weight: weight, Path: path} }

// nothing: a state in which no route is valid.
func nothing(n api.Net) [][]api.Route {
	var out [][]api.Route
	for range n.Nodes {
		out = append(out, slices.Repeat([]api.Route{{Weight: n.Algebra.Size - 1}}, n.Nodes))
	}
	return out
}

// turned: nothing of a diamond, with something done to it.
func turned(do func(x [][]api.Route)) [][]api.Route {
	x := nothing(diamond())
	do(x)
	return x
}

// same routes; an empty path is the same, nil or not.
func same(a, b api.Route) bool { return a.Weight == b.Weight && slices.Equal(a.Path, b.Path) }

func sameState(x, y [][]api.Route) bool {
	return slices.EqualFunc(x, y, func(a, b []api.Route) bool { return slices.EqualFunc(a, b, same) })
}

// zero: a route of which nothing is told.
func zero(r api.Route) bool { return reflect.DeepEqual(r, api.Route{}) }

// wrongNets: with what Check of nets says.
func wrongNets() map[string]api.Net {
	out := map[string]api.Net{}
	wrong := func(name string, do func(n *api.Net)) {
		n := diamond()
		do(&n)
		out[name] = n
	}
	wrong("nothing", func(n *api.Net) { *n = api.Net{} })
	wrong("no size", func(n *api.Net) { n.Algebra.Size = 25 })
	wrong("many edges", func(n *api.Net) { n.Algebra.Edges = make([][]int, 9) })
	wrong("a short edge", func(n *api.Net) { n.Algebra.Edges[0] = n.Algebra.Edges[0][1:] })
	wrong("no route", func(n *api.Net) { n.Algebra.Best[0][0] = 6 })
	wrong("a law", func(n *api.Net) { n.Algebra.Edges[0][1] = 0 })
	wrong("no node", func(n *api.Net) { n.Nodes = 0 })
	wrong("many nodes", func(n *api.Net) { n.Nodes = 7 })
	wrong("nodes below 0", func(n *api.Net) { n.Nodes = math.MinInt })
	wrong("no such node", func(n *api.Net) { n.Links[1].To = 4 })
	wrong("no such edge", func(n *api.Net) { n.Links[1].Edge = 2 })
	wrong("the same node", func(n *api.Net) { n.Links[1].To = 2 })
	wrong("twice", func(n *api.Net) { n.Links[4] = n.Links[0] })
	return out
}

// wrongRoutes: not right in a diamond, wherever they stand. As far as they can be they are from that node (0, or 2) to 3.
func wrongRoutes(from int) map[string]api.Route {
	return map[string]api.Route{
		"nothing":                     {},
		"a weight below 0":            route(-1, from, 3),
		"a weight that is none":       route(6, from, 3),
		"a weight without a path":     route(6),
		"the least weight":            route(math.MinInt),
		"the greatest weight":         route(math.MaxInt, from, 3),
		"an invalid one with a path":  route(5, from, 3),
		"a valid one without a path":  route(4),
		"an empty path":               {Weight: 1, Path: []int{}},
		"no such node":                route(1, from, 4, 3),
		"a node below 0":              route(1, from, -1, 3),
		"the least node":              route(1, from, math.MinInt, 3),
		"the greatest node":           route(1, from, math.MaxInt, 3),
		"a node twice, side by side":  route(1, from, 1, 1, 3),
		"the last one twice":          route(1, from, 3, 1, 3),
		"the first one twice":         route(1, from, 1, from, 3),
		"the first one is the last":   route(1, from, 1, from),
		"more nodes than there are":   route(1, from, 1, 2-from, 4, 3),
		"more nodes, one of it twice": route(1, from, 1, 2-from, 1, 3),
		"many nodes":                  route(1, slices.Repeat([]int{from}, 1000)...),
	}
}

// G1, P1: all tell first what Check of nets says, and nothing else.
func TestCheckComesFirst(t *testing.T) {
	for name, n := range wrongNets() {
		want := net.Check(n)
		if want == api.OK {
			t.Fatalf("%s is right", name)
		}
		for _, x := range [][][]api.Route{nil, nothing(diamond()), make([][]api.Route, 4)} {
			if e := path.Fit(n, x); e != want {
				t.Errorf("Fit of %s: %d, and must be %d", name, e, want)
			}
			if y, e := path.Round(n, x); len(y) != 0 || e != want {
				t.Errorf("Round of %s: %v %d, and must be %d", name, y, e, want)
			}
			for _, most := range []int{-1, 1, 1001} {
				if y, k, e := path.Settle(n, x, most); len(y) != 0 || k != 0 || e != want {
					t.Errorf("Settle of %s: %v %d %d, and must be %d", name, y, k, e, want)
				}
			}
		}
		for _, r := range []api.Route{{}, route(5), route(1, 2, 3)} {
			if b, e := path.Best(n, r, r); !zero(b) || e != want {
				t.Errorf("Best of %s: %v %d, and must be %d", name, b, e, want)
			}
			for l := -1; l < 6; l++ {
				if b, e := path.Extend(n, 0, l, r); !zero(b) || e != want {
					t.Errorf("Extend of %s: %v %d, and must be %d", name, b, e, want)
				}
			}
		}
	}
}

// fits as it must: Fit, and Round and Settle, which tell it ahead of what else is wrong, and nothing else.
func fits(t *testing.T, name string, x [][]api.Route, want api.Errno) {
	n := diamond()
	if e := path.Fit(n, x); e != want {
		t.Errorf("%s: %d, and must be %d", name, e, want)
	}
	if y, e := path.Round(n, x); e != want || e != api.OK && len(y) != 0 {
		t.Errorf("Round of %s: %v %d, and must be %d", name, y, e, want)
	}
	for _, most := range []int{0, 1, 1000} {
		if y, k, e := path.Settle(n, x, most); e != want || e != api.OK && (len(y) != 0 || k != 0) {
			t.Errorf("Settle of %s: %v %d %d, and must be %d", name, y, k, e, want)
		}
	}
	for _, most := range []int{-1, 1001} {
		if y, k, e := path.Settle(n, x, most); e == api.OK || want != api.OK && e != want || len(y) != 0 || k != 0 {
			t.Errorf("Settle of %s, %d: %v %d %d, and must be %d", name, most, y, k, e, want)
		}
	}
}

// G1
func TestFit(t *testing.T) {
	at := func(i, j int, r api.Route) [][]api.Route { return turned(func(x [][]api.Route) { x[i][j] = r }) }
	for name, x := range map[string][][]api.Route{
		"nothing is valid":             nothing(diamond()),
		"an empty path":                at(0, 3, api.Route{Weight: 5, Path: []int{}}),
		"a node's own":                 at(2, 2, route(0, 2)),
		"a node's own weighs anything": at(2, 2, route(4, 2)),
		"the trivial one to another":   at(0, 3, route(0, 0, 3)),
		"not along links":              at(1, 2, route(4, 1, 2)),
		"all nodes":                    at(3, 0, route(1, 3, 2, 1, 0)),
	} {
		fits(t, name, x, api.OK)
	}
	for name, x := range map[string][][]api.Route{
		"no rows":                  nil,
		"empty rows":               {},
		"rows without routes":      make([][]api.Route, 4),
		"a row too few":            nothing(diamond())[1:],
		"a row too many":           append(nothing(diamond()), nothing(diamond())[0]),
		"an empty row":             turned(func(x [][]api.Route) { x[3] = nil }),
		"a short row":              turned(func(x [][]api.Route) { x[0] = x[0][1:] }),
		"a long row":               turned(func(x [][]api.Route) { x[3] = append(x[3], route(5)) }),
		"form ahead of a route":    turned(func(x [][]api.Route) { x[0][0], x[3] = route(9), nil }),
		"rows ahead of a route":    append(at(0, 0, route(9)), nil),
		"form ahead of where from": turned(func(x [][]api.Route) { x[0][3], x[3] = route(1, 1, 3), nil }),
	} {
		fits(t, name, x, api.ErrForm)
	}
	for name, r := range wrongRoutes(0) {
		fits(t, name, at(0, 3, r), api.ErrState)
	}
	for name, x := range map[string][][]api.Route{
		"it begins with another one":  at(0, 3, route(1, 1, 3)),
		"it ends with another one":    at(0, 3, route(1, 0, 2)),
		"the other way round":         at(0, 3, route(1, 3, 0)),
		"it has them between":         at(0, 3, route(1, 1, 0, 3, 2)),
		"the first one alone":         at(0, 3, route(1, 0)),
		"the last one alone":          at(0, 3, route(1, 3)),
		"a node's own, by another":    at(1, 1, route(1, 1, 3)),
		"a node's own, of another":    at(1, 1, route(0, 3)),
		"the last one of all":         at(3, 3, route(0, 2)),
		"a route that is none there":  at(3, 3, route(6, 3)),
		"an invalid one that has one": at(1, 0, route(5, 1, 0)),
	} {
		fits(t, name, x, api.ErrState)
	}
}

// G2, both ways round.
func TestBest(t *testing.T) {
	for _, c := range []struct {
		name       string
		n          api.Net
		best, less api.Route
	}{
		{"both invalid", diamond(), route(5), route(5)},
		{"the valid one", diamond(), route(4, 3, 2, 1, 0), route(5)},
		{"the valid one of another order", odd(), route(1, 3), api.Route{Weight: 3, Path: []int{}}},
		{"the weight ahead of all", diamond(), route(1, 3, 2, 1), route(2, 0)},
		{"the trivial one", diamond(), route(0, 3, 2), route(1, 3)},
		{"best is not the lesser one", odd(), route(2, 3, 2), route(1, 0)},
		{"the shorter path", diamond(), route(2, 3), route(2, 0, 1)},
		{"the shorter path, ahead of its nodes", diamond(), route(2, 3, 2, 1), route(2, 0, 1, 2, 3)},
		{"the lesser first node", diamond(), route(2, 0, 3), route(2, 1, 0)},
		{"the lesser last node", diamond(), route(2, 3, 1, 0), route(2, 3, 1, 2)},
		{"where they first differ", diamond(), route(2, 0, 1, 3), route(2, 0, 2, 1)},
		{"the same", diamond(), route(2, 0, 2, 1), route(2, 0, 2, 1)},
	} {
		for _, l := range [][2]api.Route{{c.best, c.less}, {c.less, c.best}} {
			if r, e := path.Best(c.n, l[0], l[1]); !same(r, c.best) || e != api.OK {
				t.Errorf("%s: %v %d, and must be %v", c.name, r, e, c.best)
			}
		}
	}
}

// G2: one that is not right.
func TestBestWrong(t *testing.T) {
	for name, w := range wrongRoutes(0) {
		for _, other := range []api.Route{route(5), route(0, 0), w} {
			for _, l := range [][2]api.Route{{w, other}, {other, w}} {
				if r, e := path.Best(diamond(), l[0], l[1]); !zero(r) || e != api.ErrState {
					t.Errorf("%s: %v %d, and must be ErrState", name, r, e)
				}
			}
		}
	}
}

// G3
func TestExtend(t *testing.T) {
	wide := diamond()
	wide.Algebra = built(api.PlanWide, 4, 1, 2)
	for _, c := range []struct {
		name    string
		n       api.Net
		l       int
		r, want api.Route
	}{
		{"one more", diamond(), 0, route(1, 2, 3), route(2, 0, 2, 3)},
		{"of the trivial one", diamond(), 2, route(0, 1), route(1, 0, 1)},
		{"another edge", diamond(), 4, route(1, 0, 1), route(3, 3, 0, 1)},
		{"by all nodes", diamond(), 2, route(3, 1, 3, 2), route(4, 0, 1, 3, 2)},
		{"of the invalid one", diamond(), 0, route(5), route(5)},
		{"of an empty path", diamond(), 0, api.Route{Weight: 5, Path: []int{}}, route(5)},
		{"it leads back", diamond(), 0, route(1, 2, 0), route(5)},
		{"it leads back between", diamond(), 0, route(1, 2, 0, 3), route(5)},
		{"it weighs too much", diamond(), 0, route(4, 2, 3), route(5)},
		{"just as much as it may", diamond(), 4, route(2, 0, 2), route(4, 3, 0, 2)},
		{"an edge that lets nothing through", odd(), 4, route(2, 0, 1), route(3)},
		{"another order", odd(), 0, route(2, 2, 3), route(1, 0, 2, 3)},
		{"it weighs the same", wide, 0, route(3, 2, 3), route(3, 0, 2, 3)},
	} {
		if r, e := path.Extend(c.n, c.n.Links[c.l].From, c.l, c.r); !same(r, c.want) || e != api.OK {
			t.Errorf("%s: %v %d, and must be %v", c.name, r, e, c.want)
		}
	}
}

// G3, P1: what Extend refuses, in its order.
func TestExtendWrong(t *testing.T) {
	good := route(1, 2, 3)
	for _, c := range []struct {
		name    string
		from, l int
		r       api.Route
		want    api.Errno
	}{
		{"no link", 0, 5, good, api.ErrNone},
		{"a link below 0", 0, -1, good, api.ErrNone},
		{"the least link", 0, math.MinInt, good, api.ErrNone},
		{"the greatest link", 0, math.MaxInt, good, api.ErrNone},
		{"no link ahead of from", 9, 5, good, api.ErrNone},
		{"no link ahead of a route", 0, 5, route(9), api.ErrNone},
		{"from is its To", 2, 0, good, api.ErrForm},
		{"from is another one", 1, 0, good, api.ErrForm},
		{"from is no node", 4, 0, good, api.ErrForm},
		{"from is below 0", -1, 0, good, api.ErrForm},
		{"from, of an invalid one", 1, 0, route(5), api.ErrForm},
		{"from ahead of a route", 1, 0, route(9), api.ErrForm},
		{"from ahead of where it begins", 1, 0, route(1, 1, 3), api.ErrForm},
		{"it begins with another one", 0, 0, route(1, 1, 3), api.ErrState},
		{"it begins with from", 0, 0, route(1, 0, 2, 3), api.ErrState},
		{"it has To behind its first one", 0, 0, route(1, 3, 2), api.ErrState},
		{"it begins with another one, and weighs too much", 0, 0, route(4, 1, 3), api.ErrState},
	} {
		if r, e := path.Extend(diamond(), c.from, c.l, c.r); !zero(r) || e != c.want {
			t.Errorf("%s: %v %d, and must be %d", c.name, r, e, c.want)
		}
	}
	for name, w := range wrongRoutes(2) {
		if r, e := path.Extend(diamond(), 0, 0, w); !zero(r) || e != api.ErrState {
			t.Errorf("%s: %v %d, and must be ErrState", name, r, e)
		}
	}
}

// G4: rounds told out whole.
func TestRound(t *testing.T) {
	five, three := route(5), route(3)
	own := [][]api.Route{{route(0, 0), five, five, five}, {five, route(0, 1), five, five}, {five, five, route(0, 2), five}, {five, five, five, route(0, 3)}}
	for _, c := range []struct {
		name    string
		n       api.Net
		x, want [][]api.Route
	}{
		{"of nothing", diamond(), nothing(diamond()), own},
		{"all look at once", diamond(), own, [][]api.Route{
			{route(0, 0), route(1, 0, 1), route(1, 0, 2), five},
			{five, route(0, 1), five, route(1, 1, 3)},
			{five, five, route(0, 2), route(1, 2, 3)},
			{route(2, 3, 0), five, five, route(0, 3)}}},
		{"the lesser node of two links; what leads back, or weighs too much, is none; what a node has of its own does not count", diamond(), [][]api.Route{
			{route(4, 0), route(1, 0, 3, 1), five, route(0, 0, 3)},
			{route(1, 1, 3, 0), route(2, 1), five, route(1, 1, 3)},
			{five, five, route(0, 2), route(1, 2, 3)},
			{five, route(0, 3, 1), five, route(4, 3)}}, [][]api.Route{
			{route(0, 0), route(3, 0, 1), route(1, 0, 2), route(2, 0, 1, 3)},
			{five, route(0, 1), five, five},
			{five, route(1, 2, 3, 1), route(0, 2), five},
			{five, five, five, route(0, 3)}}},
		{"best is not the lesser one", odd(), [][]api.Route{
			{three, three, three, three},
			{three, three, three, route(0, 1, 3)},
			{three, three, three, route(1, 2, 3)},
			{three, three, three, three}}, [][]api.Route{
			{route(0, 0), three, three, route(1, 0, 1, 3)},
			{three, route(0, 1), three, three},
			{three, three, route(0, 2), three},
			{three, three, three, route(0, 3)}}},
		{"two nodes", pair(), [][]api.Route{{route(2), route(2)}, {route(2), route(0, 1)}}, [][]api.Route{{route(0, 0), route(1, 0, 1)}, {route(2), route(0, 1)}}},
		{"one node", rights()["one node"], [][]api.Route{{route(1, 0)}}, [][]api.Route{{route(0, 0)}}},
	} {
		if y, e := path.Round(c.n, c.x); e != api.OK || !sameState(y, c.want) {
			t.Errorf("%s: %v %d, and must be %v", c.name, y, e, c.want)
		}
	}
}

// G4: the seventh example of the document.
func TestExample(t *testing.T) {
	want := [][]api.Route{{route(0, 0), route(1, 0, 1)}, {route(1, 1, 0), route(0, 1)}}
	if y, k, e := path.Settle(pair(), nothing(pair()), 1000); e != api.OK || k != 2 || !sameState(y, want) {
		t.Errorf("%v %d %d, and must be %v by 2", y, k, e, want)
	}
}

// G4: how many rounds are made, and counted.
func TestSettle(t *testing.T) {
	two := route(2)
	x := [][]api.Route{{two, two, route(0, 0, 2)}, {two, two, two}, {two, two, two}}
	at := func(to1, to0, from0, from1 api.Route) [][]api.Route {
		return [][]api.Route{{route(0, 0), to1, from0}, {to0, route(0, 1), from1}, {two, two, route(0, 2)}}
	}
	// Node 1 hears of node 0's way to 2, and 0 of that, and it has 0 in it: it is gone.
	first, last := at(two, two, two, route(1, 1, 0, 2)), at(route(1, 0, 1), route(1, 1, 0), two, two)
	for _, c := range []struct {
		name       string
		x          [][]api.Route
		most       int
		want       [][]api.Route
		wantRounds int
		wantErr    api.Errno
	}{
		{"below 0", x, -1, nil, 0, api.ErrRange},
		{"the least", x, math.MinInt, nil, 0, api.ErrRange},
		{"above 1000", x, 1001, nil, 0, api.ErrRange},
		{"the greatest", x, math.MaxInt, nil, 0, api.ErrRange},
		{"none", x, 0, x, 0, api.OK},
		{"one", x, 1, first, 1, api.OK},
		{"just as many as change something", x, 2, last, 2, api.OK},
		{"one more", x, 3, last, 2, api.OK},
		{"many more", x, 1000, last, 2, api.OK},
		{"settled already", last, 1000, last, 0, api.OK},
		{"settled already, and none", last, 0, last, 0, api.OK},
	} {
		y, k, e := path.Settle(swings(), c.x, c.most)
		if e != c.wantErr || k != c.wantRounds || !sameState(y, c.want) {
			t.Errorf("%s: %v %d %d, and must be %v %d %d", c.name, y, k, e, c.want, c.wantRounds, c.wantErr)
		}
	}
}

// G5: a path alone may change, and then that round counts; and without paths the same weights never settle.
func TestSettleByPathsAlone(t *testing.T) {
	n := api.Net{Algebra: built(api.PlanWide, 1, 1), Nodes: 4, Links: []api.Link{{From: 0, To: 1}, {From: 1, To: 2}, {From: 2, To: 3}, {From: 1, To: 3}}}
	want, _, _ := path.Settle(n, nothing(n), 1000)
	x, _, _ := path.Settle(n, nothing(n), 1000)
	x[0][3], x[1][3] = route(1, 0, 1, 2, 3), route(1, 1, 2, 3)
	if y, k, e := path.Settle(n, x, 1000); e != api.OK || k != 2 || !sameState(y, want) {
		t.Errorf("%v %d %d, and must be %v by 2", y, k, e, want)
	}
	if y, k, e := path.Settle(n, x, 1); e != api.OK || k != 1 || !same(y[0][3], x[0][3]) || !same(y[1][3], route(1, 1, 3)) {
		t.Errorf("%v %d %d", y, k, e)
	}
	left := [][]int{{0, 1, 1}, {1, 0, 2}, {2, 2, 0}}
	if _, k, _ := net.Settle(swings(), left, 1000); k != 1000 {
		t.Errorf("without paths it settles by %d", k)
	}
	withPaths := [][]api.Route{{route(0, 0), route(1, 0, 1), route(1, 0, 2)}, {route(1, 1, 0), route(0, 1), route(2)}, {route(2), route(2), route(0, 2)}}
	if y, k, e := path.Settle(swings(), withPaths, 1000); e != api.OK || k != 2 || y[0][2].Weight != 2 || y[1][2].Weight != 2 {
		t.Errorf("with paths: %v %d %d", y, k, e)
	}
}
