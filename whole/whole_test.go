package whole_test

import (
	"reflect"
	"slices"
	"testing"

	"signpost/algebra"
	"signpost/api"
	"signpost/async"
	"signpost/engine"
	"signpost/net"
	"signpost/path"
	"signpost/plan"
	"signpost/table"
	"signpost/wire"
)

// draw: numbers, the same each time.
type draw uint64

func (d *draw) n(n int) int {
	*d = *d*6364136223846793005 + 1442695040888963407
	return int(uint64(*d) >> 33 % uint64(n))
}

// numbers from 1 to most.
func (d *draw) numbers(count, most int) []int {
	out := make([]int, count)
	for i := range out {
		out[i] = 1 + d.n(most)
	}
	return out
}

// somePlan with so many edges: hops, widths, a pair of them either way round, or a filter of one of these.
func somePlan(d *draw, edges int) api.Plan {
	n := 1 + d.n(4)
	hops := api.Plan{Kind: api.PlanHops, N: n, Edges: d.numbers(edges, n)}
	wide := api.Plan{Kind: api.PlanWide, N: 2, Edges: d.numbers(edges, 2)}
	p := []api.Plan{hops, wide, {Kind: api.PlanPair, Parts: []api.Plan{wide, hops}}, {Kind: api.PlanPair, Parts: []api.Plan{hops, wide}}}[d.n(4)]
	if d.n(3) > 0 {
		return p
	}
	stops := make([]int, edges)
	for i := range stops {
		// Of the lesser routes some, so that a good deal comes through.
		stops[i] = d.n(8)
	}
	return api.Plan{Kind: api.PlanFilter, Edges: stops, Parts: []api.Plan{p}}
}

// someNet of an algebra that is built.
func someNet(t *testing.T, d *draw) api.Net {
	p := somePlan(d, 2)
	a, e := plan.Build(p)
	if e != api.OK {
		t.Fatalf("%v: %d", p, e)
	}
	n := api.Net{Algebra: a, Nodes: 1 + d.n(api.MaxNodes)}
	for k := range n.Nodes * n.Nodes {
		if l := (api.Link{From: k / n.Nodes, To: k % n.Nodes, Edge: d.n(2)}); l.From != l.To && d.n(3) > 0 {
			n.Links = append(n.Links, l)
		}
	}
	return n
}

// strictNet: one whose algebra is strict.
func strictNet(t *testing.T, d *draw) api.Net {
	for {
		n := someNet(t, d)
		if b, e := algebra.Strict(n.Algebra); e == api.OK && b.Law == api.LawNone {
			return n
		}
	}
}

// someRoutes: a route to each node.
func someRoutes(d *draw, n api.Net) []int {
	out := make([]int, n.Nodes)
	for j := range out {
		out[j] = d.n(n.Algebra.Size)
	}
	return out
}

func someState(d *draw, n api.Net) [][]int {
	var out [][]int
	for range n.Nodes {
		out = append(out, someRoutes(d, n))
	}
	return out
}

// settled: what a strict net settles to.
func settled(t *testing.T, n api.Net) [][]int {
	x, _ := net.Begin(n)
	y, _, e := net.Settle(n, x, 1000)
	if z, f := net.Round(n, y); e != api.OK || f != api.OK || !reflect.DeepEqual(y, z) {
		t.Fatalf("%v does not settle: %v %d, then %v %d", n, y, e, z, f)
	}
	return y
}

// allHold: does a law hold for all routes and edges that may be told?
func allHold(a api.Algebra, law int) bool {
	for x := range a.Size {
		for y := range a.Size {
			for z := range a.Size {
				for edge := range max(len(a.Edges), 1) {
					// What the law does not name must be 0, and is refused if it is not.
					ok, e := algebra.Holds(a, api.Broken{Law: law, A: x, B: y, C: z, Edge: edge})
					if e == api.OK && !ok {
						return false
					}
				}
			}
		}
	}
	return true
}

// Whatever is told to be broken does not hold; if no law is told to be, all hold; what is built breaks none.
func TestBrokenDoesNotHold(t *testing.T) {
	d := draw(101)
	type asked struct {
		ask  func(api.Algebra) (api.Broken, api.Errno)
		laws []int
	}
	calls := []asked{{algebra.Laws, []int{1, 2, 3, 4, 5, 6, 7}}, {algebra.Strict, []int{8}}, {algebra.Distributive, []int{9}}}
	met := map[int]int{}
	for i := range 400 {
		a, e := plan.Build(somePlan(&d, d.n(3)))
		if b, f := algebra.Laws(a); e != api.OK || f != api.OK || b != (api.Broken{}) {
			t.Fatalf("%v is built, and breaks %v: %d %d", a, b, e, f)
		}
		if i%2 == 0 { // something of it is turned
			a.Best[d.n(a.Size)][d.n(a.Size)] = d.n(a.Size)
			if len(a.Edges) > 0 {
				a.Edges[0][d.n(a.Size)] = d.n(a.Size)
			}
		}
		for _, c := range calls {
			b, e := c.ask(a)
			met[b.Law]++
			if e != api.OK {
				t.Fatalf("%v: %d", a, e)
			}
			if ok, e := algebra.Holds(a, b); b.Law != api.LawNone && (ok || e != api.OK) {
				t.Fatalf("%v: %v is told to be broken: %v %d", a, b, ok, e)
			}
			for _, law := range c.laws {
				if b.Law == api.LawNone && !allHold(a, law) {
					t.Fatalf("%v: nothing is told, and law %d does not hold", a, law)
				}
			}
		}
	}
	if len(met) < 8 {
		t.Errorf("too few laws were broken: %v", met)
	}
}

// someTurns: whoever looks when, at however old things.
func someTurns(d *draw, n api.Net, count int) []api.Turn {
	var out []api.Turn
	oldest := 1 + d.n(5)
	for range count {
		t := api.Turn{Active: make([]bool, n.Nodes)}
		for i := range t.Active {
			t.Active[i] = d.n(4) > 0
			t.Ages = append(t.Ages, d.numbers(n.Nodes, oldest))
		}
		out = append(out, t)
	}
	return out
}

// If the algebra is strict a net settles, from whatever state, and always to the same, whoever looks when, at however old things.
func TestStrictNetsSettle(t *testing.T) {
	d := draw(102)
	enough := 0
	for range 150 {
		n := strictNet(t, &d)
		want := settled(t, n)
		x := someState(&d, n)
		if y, k, e := net.Settle(n, x, n.Algebra.Size); e != api.OK || k > n.Algebra.Size || !reflect.DeepEqual(y, want) {
			t.Fatalf("%v from %v: %v %d %d, and must be %v", n, x, y, k, e, want)
		}
		turns := someTurns(&d, n, api.MaxTurns)
		cycles, e := async.Cycles(n, turns)
		states, f := async.Run(n, x, turns)
		if e != api.OK || f != api.OK || len(states) != api.MaxTurns+1 {
			t.Fatalf("%v: %d %d", n, e, f)
		}
		if cycles < n.Algebra.Size {
			continue
		}
		enough++
		if y := states[api.MaxTurns]; !reflect.DeepEqual(y, want) {
			t.Fatalf("%v from %v, by %d cycles: %v, and must be %v", n, x, cycles, y, want)
		}
	}
	if enough < 50 {
		t.Errorf("only %d had cycles enough", enough)
	}
}

// unread: no mail of an engine can be read with a byte of it turned.
func unread(t *testing.T, d *draw, e api.Engine) {
	for _, m := range e.Bag {
		for k := range len(m.Bytes) {
			b := []byte(m.Bytes)
			b[k] ^= byte(1 + d.n(255))
			if p, err := wire.Read(string(b)); err == api.OK {
				t.Fatalf("%v, with byte %d turned, is read as %v", m, k, p)
			}
		}
	}
}

// after whatever: an engine behind some events.
func after(d *draw, n api.Net, e api.Engine) api.Engine {
	for range 40 {
		v := api.Event{Kind: 1 + d.n(7), At: d.n(n.Nodes + 2), B: d.n(8), C: 1 + d.n(255), Routes: someRoutes(d, n)}
		if next, err := engine.Step(n, e, v); err == api.OK {
			e = next
		}
	}
	return e
}

// What is spoilt is not read; after whatever, behind enough rounds of calm, all routes are what they must be.
func TestCalmComes(t *testing.T) {
	d := draw(103)
	for range 150 {
		n := strictNet(t, &d)
		want := settled(t, n)
		x, _ := engine.New(n)
		for at := range n.Nodes {
			x, _ = engine.Step(n, x, api.Event{Kind: api.EventTick, At: at})
		}
		if len(x.Bag) != len(n.Links) {
			t.Fatalf("%v: %d are on their way", n, len(x.Bag))
		}
		unread(t, &d, x)
		x = after(&d, n, x)
		y, e := engine.Calm(n, x, n.Algebra.Size+1)
		if e != api.OK || len(y.Bag) != 0 {
			t.Fatalf("%v, %v: %d", n, x, e)
		}
		for i, r := range y.Routers {
			if !slices.Equal(r.Routes, want[i]) {
				t.Fatalf("%v, %v: node %d has %v, and must have %v", n, x, i, r.Routes, want[i])
			}
		}
	}
}

// somePaths: a state of routes with paths, along links or not, whatever they weigh.
func somePaths(d *draw, n api.Net) [][]api.Route {
	var out [][]api.Route
	for i, row := range someState(d, n) {
		var l []api.Route
		for j, w := range row {
			r := api.Route{Weight: w}
			if w != n.Algebra.Size-1 {
				r.Path = []int{i}
				if k := d.n(n.Nodes); i != j && k != i && k != j {
					r.Path = append(r.Path, k)
				}
				if i != j {
					r.Path = append(r.Path, j)
				}
			}
			l = append(l, r)
		}
		out = append(out, l)
	}
	return out
}

// samePaths: the same state; an empty path is the same, nil or not.
func samePaths(x, y [][]api.Route) bool {
	same := func(a, b api.Route) bool { return a.Weight == b.Weight && slices.Equal(a.Path, b.Path) }
	return slices.EqualFunc(x, y, func(a, b []api.Route) bool { return slices.EqualFunc(a, b, same) })
}

// With paths it settles though the algebra is not strict, and all paths tell what they weigh.
func TestPathsSettle(t *testing.T) {
	d := draw(104)
	lax, longest := 0, 0
	for range 300 {
		n := someNet(t, &d)
		if b, _ := algebra.Strict(n.Algebra); b.Law != api.LawNone {
			lax++
		}
		want, k, e := path.Settle(n, somePaths(&d, n), 1000)
		if e != api.OK || k == 1000 {
			t.Fatalf("%v does not settle: %d %d", n, k, e)
		}
		for range 3 {
			x := somePaths(&d, n)
			if y, _, e := path.Settle(n, x, 1000); e != api.OK || !samePaths(y, want) {
				t.Fatalf("%v from %v: %v %d, and must be %v", n, x, y, e, want)
			}
		}
		for i, row := range want {
			for j, r := range row {
				if r.Weight == n.Algebra.Size-1 {
					continue
				}
				if w, e := table.Weigh(n, r.Path); e != api.OK || w != r.Weight || r.Path[0] != i || r.Path[len(r.Path)-1] != j {
					t.Fatalf("%v: %d has %v to %d, which weighs %d %d", n, i, r, j, w, e)
				}
				longest = max(longest, len(r.Path))
			}
		}
	}
	if lax < 50 || longest < 4 {
		t.Errorf("%d were not strict, the longest path has %d nodes", lax, longest)
	}
}

// Each walk comes there, without a node twice; and if the algebra is distributive the route is the best of all paths.
func TestWalksComeThere(t *testing.T) {
	d := draw(105)
	distributive, others, longest := 0, 0, 0
	for range 300 {
		n := strictNet(t, &d)
		x := settled(t, n)
		by, e := table.Table(n, x)
		if e != api.OK {
			t.Fatalf("%v, %v: %d", n, x, e)
		}
		b, _ := algebra.Distributive(n.Algebra)
		for from, row := range x {
			for to, r := range row {
				l, there, e := table.Walk(n, by, from, to)
				if e != api.OK || there != (r != n.Algebra.Size-1) {
					t.Fatalf("%v: from %d to %d: %v %v %d, and the route is %d", n, from, to, l, there, e, r)
				}
				met := map[int]int{}
				for _, k := range l {
					met[k]++
				}
				if len(met) != len(l) || l[0] != from || there && l[len(l)-1] != to {
					t.Fatalf("%v: from %d to %d by %v", n, from, to, l)
				}
				longest = max(longest, len(l))
				best, e := table.Paths(n, from, to)
				if b.Law != api.LawNone {
					others++
				} else if distributive++; best != r || e != api.OK {
					t.Fatalf("%v: from %d to %d: %d, and the best of all paths is %d %d", n, from, to, r, best, e)
				}
			}
		}
	}
	if distributive < 500 || others < 500 || longest < 4 {
		t.Errorf("%d were distributive, %d were not, the longest walk has %d nodes", distributive, others, longest)
	}
}

// All eight examples of the document, each of what the one ahead of it answered.
func TestExamples(t *testing.T) {
	must := func(number int, ok bool, told ...any) {
		if !ok {
			t.Errorf("example %d: %v", number, told)
		}
	}
	one := api.Algebra{Size: 3, Best: [][]int{{0, 0, 0}, {0, 1, 1}, {0, 1, 2}}, Edges: [][]int{{1, 2, 2}}}
	laws, _ := algebra.Laws(one)
	strict, _ := algebra.Strict(one)
	distributive, e := algebra.Distributive(one)
	must(1, laws.Law+strict.Law+distributive.Law == api.LawNone && e == api.OK, laws, strict, distributive, e)
	lax := one
	lax.Edges = [][]int{{0, 1, 2}}
	strict, e = algebra.Strict(lax)
	must(1, strict == api.Broken{Law: api.LawStrict} && e == api.OK, strict, e)

	a, e := plan.Build(api.Plan{Kind: api.PlanHops, N: 1, Edges: []int{1}})
	must(2, reflect.DeepEqual(a, one) && e == api.OK, a, e)

	n := api.Net{Algebra: a, Nodes: 2, Links: []api.Link{{From: 0, To: 1}, {From: 1, To: 0}}}
	begin, _ := net.Begin(n)
	x, k, e := net.Settle(n, begin, 10)
	must(3, reflect.DeepEqual(x, [][]int{{0, 1}, {1, 0}}) && k == 1 && e == api.OK, x, k, e)

	ages := [][]int{{1, 1}, {1, 1}}
	cycles, e := async.Cycles(n, []api.Turn{{Active: []bool{true, false}, Ages: ages}, {Active: []bool{false, true}, Ages: ages}})
	must(4, cycles == 1 && e == api.OK, cycles, e)

	s, e := wire.Write(api.Packet{Routes: []int{0}})
	must(5, len(s) == 7 && e == api.OK, s, e)

	made, _ := engine.New(n)
	made, k, e = engine.Play(n, made, []api.Event{{Kind: api.EventTick, At: 1}, {Kind: api.EventDeliver}})
	must(6, k == 2 && e == api.OK && made.Routers[0].Routes[1] == 1, made, k, e)

	none := api.Route{Weight: 2}
	paths, k, e := path.Settle(n, [][]api.Route{{none, none}, {none, none}}, 10)
	must(7, k == 2 && e == api.OK && reflect.DeepEqual(paths[0][1], api.Route{Weight: 1, Path: []int{0, 1}}), paths, k, e)
	w, e := table.Weigh(n, []int{0, 1})
	must(7, w == 1 && e == api.OK, w, e)

	by, e := table.Table(n, x)
	must(8, e == api.OK && by[0][1] == 1, by, e)
}
