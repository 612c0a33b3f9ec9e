package table_test

import (
	"math"
	"reflect"
	"slices"
	"testing"

	"signpost/api"
	"signpost/net"
	"signpost/plan"
	"signpost/table"
)

// built algebra of a plan.
func built(kind, n int, edges ...int) api.Algebra {
	a, e := plan.Build(api.Plan{Kind: kind, N: n, Edges: edges})
	if e != api.OK {
		panic(e)
	}
	return a
}

// pair of nodes with a link each.
func pair() api.Net {
	return api.Net{Algebra: built(api.PlanHops, 1, 1), Nodes: 2, Links: []api.Link{{From: 0, To: 1}, {From: 1, To: 0}}}
}

// diamond: two ways from 0 to 3, by 2 and by 1, and one back; routes are 0 to 4, and 5, the invalid one.
func diamond() api.Net {
	return api.Net{Algebra: built(api.PlanHops, 4, 1, 2), Nodes: 4, Links: []api.Link{{From: 0, To: 2}, {From: 2, To: 3}, {From: 0, To: 1}, {From: 1, To: 3}, {From: 3, To: 0, Edge: 1}}}
}

// odd: a diamond whose best routes are 0, then 2, then 1, then the invalid one, 3.
func odd() api.Net {
	n := diamond()
	n.Algebra = api.Algebra{Size: 4, Best: [][]int{{0, 0, 0, 0}, {0, 1, 2, 1}, {0, 2, 2, 2}, {0, 1, 2, 3}}, Edges: [][]int{{1, 3, 1, 3}, {2, 3, 3, 3}}}
	return n
}

// crooked: by the link from 0 to 1 only a worse route comes through, so that the best path is none that best paths are parts of.
func crooked() api.Net {
	a := api.Algebra{Size: 5, Edges: [][]int{{1, 2, 3, 4, 4}, {1, 4, 3, 4, 4}}}
	for i := range 5 {
		a.Best = append(a.Best, nil)
		for k := range 5 {
			a.Best[i] = append(a.Best[i], min(i, k))
		}
	}
	return api.Net{Algebra: a, Nodes: 4, Links: []api.Link{{From: 0, To: 1, Edge: 1}, {From: 1, To: 3}, {From: 1, To: 2}, {From: 2, To: 3}}}
}

// rights: nets at the edges of what is right.
func rights() map[string]api.Net {
	lonely, bare, least := pair(), pair(), pair()
	lonely.Nodes, lonely.Links = 1, nil
	bare.Links = []api.Link{}
	least.Algebra = api.Algebra{Size: 2, Best: [][]int{{0, 0}, {0, 1}}, Edges: [][]int{{0, 1}}}
	full := api.Net{Algebra: built(api.PlanHops, 22, 1, 2, 3, 4, 5, 6, 7, 22), Nodes: 6}
	for i := range 6 {
		for k := range 6 {
			if i != k {
				full.Links = append(full.Links, api.Link{From: i, To: k, Edge: (i + k) % 8})
			}
		}
	}
	return map[string]api.Net{"pair": pair(), "diamond": diamond(), "odd": odd(), "crooked": crooked(), "one node": lonely, "no link": bare, "least size": least, "all links": full}
}

// wrongNets: with what Check of nets says.
func wrongNets() map[string]api.Net {
	out := map[string]api.Net{}
	wrong := func(name string, do func(n *api.Net)) {
		n := diamond()
		do(&n)
		out[name] = n
	}
	wrong("nothing", func(n *api.Net) { *n = api.Net{} })
	wrong("no size", func(n *api.Net) { n.Algebra.Size = 25 })
	wrong("many edges", func(n *api.Net) { n.Algebra.Edges = make([][]int, 9) })
	wrong("a short edge", func(n *api.Net) { n.Algebra.Edges[0] = n.Algebra.Edges[0][1:] })
	wrong("no route", func(n *api.Net) { n.Algebra.Best[0][0] = 6 })
	wrong("a law", func(n *api.Net) { n.Algebra.Edges[0][1] = 0 })
	wrong("no node", func(n *api.Net) { n.Nodes = 0 })
	wrong("many nodes", func(n *api.Net) { n.Nodes = 7 })
	wrong("nodes below 0", func(n *api.Net) { n.Nodes = math.MinInt })
	wrong("no such node", func(n *api.Net) { n.Links[1].To = 4 })
	wrong("no such edge", func(n *api.Net) { n.Links[1].Edge = 2 })
	wrong("the same node", func(n *api.Net) { n.Links[1].To = 2 })
	wrong("twice", func(n *api.Net) { n.Links[4] = n.Links[0] })
	return out
}

// filled: so many rows of so many, the same number everywhere.
func filled(nodes, number int) [][]int {
	var out [][]int
	for range nodes {
		out = append(out, slices.Repeat([]int{number}, nodes))
	}
	return out
}

// H1 to H3, P1: all tell first what Check of nets says, and nothing else.
func TestCheckComesFirst(t *testing.T) {
	for name, n := range wrongNets() {
		want := net.Check(n)
		if want == api.OK {
			t.Fatalf("%s is right", name)
		}
		for _, x := range [][][]int{nil, filled(4, 0), filled(4, 9)} {
			if y, e := table.Table(n, x); len(y) != 0 || e != want {
				t.Errorf("Table of %s: %v %d, and must be %d", name, y, e, want)
			}
			for _, from := range []int{-1, 0, 9} {
				if l, ok, e := table.Walk(n, x, from, 0); len(l) != 0 || ok || e != want {
					t.Errorf("Walk of %s: %v %v %d, and must be %d", name, l, ok, e, want)
				}
				if w, e := table.Paths(n, from, 0); w != 0 || e != want {
					t.Errorf("Paths of %s: %d %d, and must be %d", name, w, e, want)
				}
			}
		}
		for _, p := range [][]int{nil, {0}, {0, 1}, {9}} {
			if w, e := table.Weigh(n, p); w != 0 || e != want {
				t.Errorf("Weigh of %s: %d %d, and must be %d", name, w, e, want)
			}
		}
	}
}

// H1: tables told out whole.
func TestTable(t *testing.T) {
	settled := func(n api.Net) [][]int {
		x, _ := net.Begin(n)
		x, _, _ = net.Settle(n, x, 1000)
		return x
	}
	for _, c := range []struct {
		name    string
		n       api.Net
		x, want [][]int
	}{
		{"the eighth example", pair(), settled(pair()), [][]int{{-1, 1}, {0, -1}}},
		{"the least node of two", diamond(), settled(diamond()), [][]int{{-1, 1, 2, 1}, {3, -1, 3, 3}, {3, 3, -1, 3}, {0, 0, 0, -1}}},
		{"the best one, though it is greater", diamond(), [][]int{{5, 5, 5, 5}, {5, 5, 5, 1}, {5, 5, 5, 0}, {5, 5, 5, 5}}, [][]int{{-1, -1, -1, 2}, {-1, -1, -1, -1}, {-1, -1, -1, -1}, {-1, -1, -1, -1}}},
		{"best is not the lesser one", api.Net{Algebra: odd().Algebra, Nodes: 4, Links: []api.Link{{From: 0, To: 1}, {From: 0, To: 2, Edge: 1}}}, filled(4, 0), [][]int{{-1, 2, 2, 2}, {-1, -1, -1, -1}, {-1, -1, -1, -1}, {-1, -1, -1, -1}}},
		{"another order", odd(), [][]int{{0, 2, 2, 0}, {2, 0, 2, 3}, {1, 1, 1, 0}, {0, 0, 2, 2}}, [][]int{{-1, 1, 1, 2}, {3, -1, 3, 3}, {3, 3, -1, 3}, {0, -1, -1, -1}}},
		{"what a node has of its own does not count", diamond(), [][]int{{5, 0, 0, 0}, {5, 5, 5, 5}, {5, 5, 5, 5}, {5, 5, 5, 5}}, [][]int{{-1, -1, -1, -1}, {-1, -1, -1, -1}, {-1, -1, -1, -1}, {-1, 0, 0, -1}}},
		{"nothing but invalid ones", diamond(), filled(4, 5), filled(4, -1)},
		{"what weighs too much is none", diamond(), filled(4, 4), filled(4, -1)},
		{"a link that costs more", diamond(), filled(4, 3), [][]int{{-1, 1, 1, 1}, {3, -1, 3, 3}, {3, 3, -1, 3}, {-1, -1, -1, -1}}},
		{"one node", rights()["one node"], [][]int{{2}}, [][]int{{-1}}},
		{"no link", rights()["no link"], filled(2, 0), filled(2, -1)},
	} {
		if y, e := table.Table(c.n, c.x); e != api.OK || !reflect.DeepEqual(y, c.want) {
			t.Errorf("%s: %v %d, and must be %v", c.name, y, e, c.want)
		}
	}
}

// H1, P1: errors of Fit.
func TestTableWrong(t *testing.T) {
	stray := filled(4, 0)
	stray[3][3] = 6
	both := filled(4, 6)
	both[3] = nil
	for _, c := range []struct {
		name string
		x    [][]int
		want api.Errno
	}{
		{"nothing", nil, api.ErrForm},
		{"a row too few", filled(3, 0), api.ErrForm},
		{"rows too many", filled(5, 0), api.ErrForm},
		{"an empty row", [][]int{{0, 0, 0, 0}, nil, {0, 0, 0, 0}, {0, 0, 0, 0}}, api.ErrForm},
		{"form ahead of a route", both, api.ErrForm},
		{"no route", stray, api.ErrNone},
		{"a table is no state", filled(4, -1), api.ErrNone},
		{"the greatest", filled(4, math.MaxInt), api.ErrNone},
	} {
		if y, e := table.Table(diamond(), c.x); len(y) != 0 || e != c.want {
			t.Errorf("%s: %v %d, and must be %d", c.name, y, e, c.want)
		}
	}
}

// H2
func TestWalk(t *testing.T) {
	round := [][]int{{1, 1, 1, 1}, {2, 2, 2, 2}, {0, 0, 0, 0}, {3, 3, 3, 3}}
	for _, c := range []struct {
		name     string
		t        [][]int
		from, to int
		want     []int
		there    bool
	}{
		{"at once", filled(4, -1), 2, 2, []int{2}, true},
		{"there already, though the table goes on", round, 1, 1, []int{1}, true},
		{"a step", round, 0, 1, []int{0, 1}, true},
		{"all the way", round, 1, 0, []int{1, 2, 0}, true},
		{"round and round", round, 1, 3, []int{1, 2, 0}, false},
		{"a node that stays", round, 3, 0, []int{3}, false},
		{"none", filled(4, -1), 0, 3, []int{0}, false},
		{"none, behind some", [][]int{{0, 0, 0, 1}, {0, 0, 0, 2}, {0, 0, 0, -1}, {0, 0, 0, 0}}, 0, 3, []int{0, 1, 2}, false},
		{"again, but not the first one", [][]int{{0, 0, 0, 1}, {0, 0, 0, 2}, {0, 0, 0, 1}, {0, 0, 0, 0}}, 0, 3, []int{0, 1, 2}, false},
		{"not along links", filled(4, 3), 1, 3, []int{1, 3}, true},
		{"all nodes", [][]int{{0, 2, 0, 0}, {0, 0, 0, 0}, {0, 1, 0, 0}, {0, 0, 0, 0}}, 3, 1, []int{3, 0, 2, 1}, true},
		{"by the column of the last one alone", [][]int{{-1, 1, 2, 3}, {3, -1, 2, 0}, {1, 1, 1, 1}, {2, 2, 2, 2}}, 1, 0, []int{1, 3, 2}, false},
	} {
		l, there, e := table.Walk(diamond(), c.t, c.from, c.to)
		if !slices.Equal(l, c.want) || there != c.there || e != api.OK {
			t.Errorf("%s: %v %v %d, and must be %v %v", c.name, l, there, e, c.want, c.there)
		}
	}
}

// H2, P1: what Walk refuses, in its order.
func TestWalkWrong(t *testing.T) {
	at := func(i, j, k int) [][]int {
		x := filled(4, 0)
		x[i][j] = k
		return x
	}
	short := at(0, 0, 9)
	short[3] = short[3][1:]
	for _, c := range []struct {
		name     string
		t        [][]int
		from, to int
		want     api.Errno
	}{
		{"nothing", nil, 0, 0, api.ErrForm},
		{"a row too few", filled(4, 0)[1:], 0, 0, api.ErrForm},
		{"a row too many", append(filled(4, 0), make([]int, 4)), 0, 0, api.ErrForm},
		{"a row without nodes", append(filled(4, 0)[1:], nil), 0, 0, api.ErrForm},
		{"a long row", append(filled(4, 0)[1:], make([]int, 5)), 0, 0, api.ErrForm},
		{"form ahead of a node", short, 0, 0, api.ErrForm},
		{"form ahead of from and to", nil, -1, 9, api.ErrForm},
		{"no such node", at(3, 3, 4), 0, 0, api.ErrNone},
		{"a node that is not met", at(1, 2, 4), 3, 3, api.ErrNone},
		{"below -1", at(0, 0, -2), 0, 0, api.ErrNone},
		{"the least", at(0, 0, math.MinInt), 0, 0, api.ErrNone},
		{"the greatest", at(0, 0, math.MaxInt), 0, 0, api.ErrNone},
		{"from is no node", filled(4, 0), 4, 0, api.ErrNone},
		{"from is below 0", filled(4, 0), -1, 0, api.ErrNone},
		{"from and to are the same, and no node", filled(4, 0), 4, 4, api.ErrNone},
		{"from is the least", filled(4, 0), math.MinInt, 0, api.ErrNone},
		{"to is no node", filled(4, 0), 0, 4, api.ErrNone},
		{"to is below 0", filled(4, 0), 0, -1, api.ErrNone},
		{"to is the greatest", filled(4, 0), 0, math.MaxInt, api.ErrNone},
	} {
		if l, there, e := table.Walk(diamond(), c.t, c.from, c.to); len(l) != 0 || there || e != c.want {
			t.Errorf("%s: %v %v %d, and must be %d", c.name, l, there, e, c.want)
		}
	}
}

// H3
func TestWeigh(t *testing.T) {
	for _, c := range []struct {
		name    string
		n       api.Net
		path    []int
		want    int
		wantErr api.Errno
	}{
		{"the seventh example", pair(), []int{0, 1}, 1, api.OK},
		{"a node alone", diamond(), []int{3}, 0, api.OK},
		{"a link", diamond(), []int{3, 0}, 2, api.OK},
		{"two links", diamond(), []int{3, 0, 1}, 3, api.OK},
		{"nodes twice", pair(), []int{0, 1, 0, 1}, 2, api.OK},
		{"as much as there can be", diamond(), []int{0, 1, 3, 0}, 4, api.OK},
		{"too much", diamond(), []int{3, 0, 1, 3, 0}, 5, api.OK},
		{"from its end on", crooked(), []int{0, 1, 3}, 4, api.OK},
		{"from its end on, the other way", crooked(), []int{0, 1, 2, 3}, 3, api.OK},
		{"another order", odd(), []int{0, 1, 3}, 3, api.OK},
		{"another order, by another edge", odd(), []int{1, 3, 0}, 1, api.OK},
		{"very long", pair(), slices.Repeat([]int{0, 1}, 10000), 2, api.OK},
		{"empty", diamond(), []int{}, 0, api.ErrForm},
		{"nil", diamond(), nil, 0, api.ErrForm},
		{"no node alone", diamond(), []int{4}, 0, api.ErrNone},
		{"below 0", diamond(), []int{-1}, 0, api.ErrNone},
		{"no node at the end", diamond(), []int{3, 0, math.MaxInt}, 0, api.ErrNone},
		{"no node at the beginning", diamond(), []int{math.MinInt, 3, 0}, 0, api.ErrNone},
		{"no link", diamond(), []int{1, 2}, 0, api.ErrNone},
		{"a link the other way alone", diamond(), []int{0, 3}, 0, api.ErrNone},
		{"the same node twice", diamond(), []int{0, 0}, 0, api.ErrNone},
		{"no link at the end", diamond(), []int{3, 0, 1, 2}, 0, api.ErrNone},
		{"no link at the beginning", diamond(), []int{1, 2, 3}, 0, api.ErrNone},
		{"no link, behind what weighs too much", diamond(), []int{0, 3, 0, 1, 3, 0}, 0, api.ErrNone},
	} {
		if w, e := table.Weigh(c.n, c.path); w != c.want || e != c.wantErr {
			t.Errorf("%s: %d %d, and must be %d %d", c.name, w, e, c.want, c.wantErr)
		}
	}
}

// H3
func TestPaths(t *testing.T) {
	for _, c := range []struct {
		name     string
		n        api.Net
		from, to int
		want     int
		wantErr  api.Errno
	}{
		{"the same node", diamond(), 2, 2, 0, api.OK},
		{"the same node without links", rights()["one node"], 0, 0, 0, api.OK},
		{"a link", diamond(), 3, 0, 2, api.OK},
		{"two ways", diamond(), 0, 3, 2, api.OK},
		{"all the way round", diamond(), 1, 2, 4, api.OK},
		{"it weighs too much", odd(), 0, 3, 3, api.OK},
		{"no way", crooked(), 3, 0, 4, api.OK},
		{"no link", rights()["no link"], 0, 1, 2, api.OK},
		{"not by the best way of the next one", crooked(), 0, 3, 3, api.OK},
		{"from is no node", diamond(), 4, 0, 0, api.ErrNone},
		{"from is below 0", diamond(), -1, 0, 0, api.ErrNone},
		{"to is no node", diamond(), 0, 4, 0, api.ErrNone},
		{"to is below 0", diamond(), 0, -1, 0, api.ErrNone},
		{"both are no node", diamond(), 4, 4, 0, api.ErrNone},
		{"the least", diamond(), math.MinInt, 0, 0, api.ErrNone},
		{"the greatest", diamond(), 0, math.MaxInt, 0, api.ErrNone},
	} {
		if w, e := table.Paths(c.n, c.from, c.to); w != c.want || e != c.wantErr {
			t.Errorf("%s: %d %d, and must be %d %d", c.name, w, e, c.want, c.wantErr)
		}
	}
}
