package path_test

import (
	"cmp"
	"slices"
	"testing"

	"signpost/algebra"
	"signpost/api"
	"signpost/net"
	"signpost/path"
)

// draw: numbers, the same each time.
type draw uint64

func (d *draw) n(n int) int {
	*d = *d*6364136223846793005 + 1442695040888963407
	return int(uint64(*d) >> 33 % uint64(n))
}

// shuffled: the numbers from 0 on, in some order.
func (d *draw) shuffled(count int) []int {
	out := make([]int, count)
	for i := range out {
		k := d.n(i + 1)
		out[i] = out[k]
		out[k] = i
	}
	return out
}

// someNet: its routes in some order, the best one first, and edges that go on in it, or stay (strict: never stay); and at which place of that order each route is.
func someNet(d *draw, strict bool) (api.Net, []int) {
	size, nodes := 2+d.n(5), 1+d.n(api.MaxNodes)
	order, place := []int{0}, make([]int, size)
	for _, r := range d.shuffled(size - 2) {
		order = append(order, r+1)
	}
	order = append(order, size-1)
	for i, r := range order {
		place[r] = i
	}
	a := api.Algebra{Size: size}
	for x := range size {
		row := make([]int, size)
		for y := range row {
			row[y] = order[min(place[x], place[y])]
		}
		a.Best = append(a.Best, row)
	}
	for range 2 {
		edge := make([]int, size)
		for i, r := range order {
			if strict {
				i = min(i+1, size-1)
			}
			edge[r] = order[min(i+d.n(3), size-1)]
		}
		a.Edges = append(a.Edges, edge)
	}
	n := api.Net{Algebra: a, Nodes: nodes}
	for _, k := range d.shuffled(nodes * nodes) {
		if l := (api.Link{From: k / nodes, To: k % nodes, Edge: d.n(2)}); l.From != l.To && d.n(3) > 0 {
			n.Links = append(n.Links, l)
		}
	}
	return n, place
}

// someRoute of i to j: anything that is right there, along links or not, whatever it weighs.
func someRoute(d *draw, n api.Net, i, j int) api.Route {
	r := api.Route{Weight: d.n(n.Algebra.Size)}
	if r.Weight == n.Algebra.Size-1 {
		return r
	}
	r.Path = []int{i}
	if i == j {
		return r
	}
	for _, k := range d.shuffled(n.Nodes)[:d.n(n.Nodes)] {
		if k != i && k != j {
			r.Path = append(r.Path, k)
		}
	}
	r.Path = append(r.Path, j)
	return r
}

func someState(d *draw, n api.Net) [][]api.Route {
	out := nothing(n)
	for i := range out {
		for j := range out[i] {
			out[i][j] = someRoute(d, n, i, j)
		}
	}
	return out
}

// first of some routes, by the places of their weights, how long their paths are, and their nodes. (An invalid one has no path.)
func first(place []int, l []api.Route) api.Route {
	return slices.MinFunc(l, func(a, b api.Route) int {
		return cmp.Or(cmp.Compare(place[a.Weight], place[b.Weight]), cmp.Compare(len(a.Path), len(b.Path)), slices.Compare(a.Path, b.Path))
	})
}

// made of a route by a link, as G3 tells it.
func made(n api.Net, l api.Link, r api.Route) api.Route {
	invalid := n.Algebra.Size - 1
	w := n.Algebra.Edges[l.Edge][r.Weight]
	if r.Weight == invalid || w == invalid || slices.Contains(r.Path, l.From) {
		return route(invalid)
	}
	return route(w, append([]int{l.From}, r.Path...)...)
}

// looked: a round by that.
func looked(n api.Net, place []int, x [][]api.Route) [][]api.Route {
	out := nothing(n)
	for i := range out {
		for j := range out[i] {
			l := []api.Route{out[i][j]}
			if i == j {
				l = append(l, route(0, i))
			}
			for _, link := range n.Links {
				if link.From == i {
					l = append(l, made(n, link, x[link.To][j]))
				}
			}
			out[i][j] = first(place, l)
		}
	}
	return out
}

// G2, G3: of nets of all kinds.
func TestBestAndExtendOfSome(t *testing.T) {
	d := draw(71)
	ties, grown := 0, 0
	for i := range 3000 {
		n, place := someNet(&d, i%2 == 0)
		a, b := someRoute(&d, n, d.n(n.Nodes), d.n(n.Nodes)), someRoute(&d, n, d.n(n.Nodes), d.n(n.Nodes))
		want := first(place, []api.Route{a, b})
		r, e := path.Best(n, a, b)
		s, f := path.Best(n, b, a)
		if !same(r, want) || !same(s, want) || e != api.OK || f != api.OK {
			t.Fatalf("Best of %v, %v, %v: %v %d, %v %d, and must be %v", n, a, b, r, e, s, f, want)
		}
		if a.Weight == b.Weight && len(a.Path) == len(b.Path) && len(a.Path) > 0 && !same(a, b) {
			ties++
		}
		for l, link := range n.Links {
			a := someRoute(&d, n, link.To, d.n(n.Nodes))
			want := made(n, link, a)
			if r, e := path.Extend(n, link.From, l, a); !same(r, want) || e != api.OK {
				t.Fatalf("Extend of %v, %d, %v: %v %d, and must be %v", n, l, a, r, e, want)
			}
			if len(want.Path) > 0 {
				grown++
			}
		}
	}
	if ties < 100 || grown < 1000 {
		t.Errorf("%d ties, %d grew", ties, grown)
	}
}

// G4: rounds of nets of all kinds, and how many changed something.
func TestRoundsOfSome(t *testing.T) {
	d := draw(72)
	for i := range 400 {
		n, place := someNet(&d, i%2 == 0)
		x := someState(&d, n)
		if e := path.Fit(n, x); e != api.OK {
			t.Fatalf("Fit of %v, %v: %d", n, x, e)
		}
		now, changes := x, 0
		for most := range 8 {
			y, k, e := path.Settle(n, x, most)
			if e != api.OK || k != changes || !sameState(y, now) {
				t.Fatalf("Settle of %v, %v, %d: %v %d %d, and must be %v %d", n, x, most, y, k, e, now, changes)
			}
			want := looked(n, place, now)
			if y, e := path.Round(n, now); e != api.OK || !sameState(y, want) {
				t.Fatalf("Round of %v, %v: %v %d, and must be %v", n, now, y, e, want)
			}
			if !sameState(now, want) {
				changes++
			}
			now = want
		}
	}
}

// weighs: what a path along links weighs; false, if it does not go along them.
func weighs(n api.Net, p []int) (int, bool) {
	if len(p) == 1 {
		return 0, true
	}
	w, ok := weighs(n, p[1:])
	for _, l := range n.Links {
		if l.From == p[0] && l.To == p[1] {
			return n.Algebra.Edges[l.Edge][w], ok
		}
	}
	return 0, false
}

// settledAs: no state but that comes from any, by fewer rounds than may be asked for.
func settledAs(t *testing.T, d *draw, n api.Net, want [][]api.Route) {
	if y, e := path.Round(n, want); e != api.OK || !sameState(y, want) {
		t.Fatalf("%v: %v has not settled: %v %d", n, want, y, e)
	}
	for range 6 {
		x := someState(d, n)
		if y, k, e := path.Settle(n, x, 1000); e != api.OK || k == 1000 || !sameState(y, want) {
			t.Fatalf("%v from %v: %v %d %d, and must be %v", n, x, y, k, e, want)
		}
	}
}

// G5: it settles from whatever state to the same one, strict or not, and its paths go along links and tell what they weigh.
func TestSettlesFromWhatever(t *testing.T) {
	d := draw(73)
	lax, unsettled, long := 0, 0, 0
	for i := range 400 {
		n, _ := someNet(&d, i%3 == 0)
		want, _, e := path.Settle(n, nothing(n), 1000)
		if e != api.OK {
			t.Fatalf("%v: %d", n, e)
		}
		settledAs(t, &d, n, want)
		for i, row := range want {
			for j, r := range row {
				if r.Weight == n.Algebra.Size-1 {
					continue
				}
				if w, ok := weighs(n, r.Path); !ok || w != r.Weight || r.Path[0] != i || r.Path[len(r.Path)-1] != j {
					t.Fatalf("%v: %d has %v to %d, which weighs %d", n, i, r, j, w)
				}
				long = max(long, len(r.Path))
			}
		}
		if b, _ := algebra.Strict(n.Algebra); b.Law != api.LawNone {
			lax++
		}
		weights := make([][]int, n.Nodes)
		for i := range weights {
			weights[i] = make([]int, n.Nodes)
			for j := range weights[i] {
				weights[i][j] = d.n(n.Algebra.Size)
			}
		}
		if _, k, _ := net.Settle(n, weights, 1000); k == 1000 {
			unsettled++
		}
	}
	if lax < 100 || unsettled < 5 || long < 5 {
		t.Errorf("%d nets were not strict, %d never settle without paths, the longest path has %d nodes", lax, unsettled, long)
	}
}
