package table_test

import (
	"fmt"
	"math"
	"reflect"
	"slices"
	"testing"

	"signpost/algebra"
	"signpost/api"
	"signpost/net"
	"signpost/table"
)

// draw: numbers, the same each time.
type draw uint64

func (d *draw) n(n int) int {
	*d = *d*6364136223846793005 + 1442695040888963407
	return int(uint64(*d) >> 33 % uint64(n))
}

// shuffled: the numbers from 0 on, in some order.
func (d *draw) shuffled(count int) []int {
	out := make([]int, count)
	for i := range out {
		k := d.n(i + 1)
		out[i] = out[k]
		out[k] = i
	}
	return out
}

// someNet: its routes in some order, the best one first, and edges that go on in it, or stay (strict: never stay; even: all by the same); and at which place of that order each route is.
func someNet(d *draw, strict, even bool) (api.Net, []int) {
	size, nodes := 2+d.n(9), 1+d.n(api.MaxNodes)
	order, place := []int{0}, make([]int, size)
	for _, r := range d.shuffled(size - 2) {
		order = append(order, r+1)
	}
	order = append(order, size-1)
	for i, r := range order {
		place[r] = i
	}
	a := api.Algebra{Size: size}
	for x := range size {
		row := make([]int, size)
		for y := range row {
			row[y] = order[min(place[x], place[y])]
		}
		a.Best = append(a.Best, row)
	}
	for cost := range 2 {
		edge := make([]int, size)
		for i, r := range order {
			if strict {
				i++
			}
			if even {
				i += cost
			} else {
				i += d.n(3) * d.n(3)
			}
			edge[r] = order[min(i, size-1)]
		}
		a.Edges = append(a.Edges, edge)
	}
	n := api.Net{Algebra: a, Nodes: nodes}
	for _, k := range d.shuffled(nodes * nodes) {
		if l := (api.Link{From: k / nodes, To: k % nodes, Edge: d.n(2)}); l.From != l.To && d.n(3) > 0 {
			n.Links = append(n.Links, l)
		}
	}
	return n, place
}

// some numbers below an end, for each node to each node, from the least on.
func some(d *draw, nodes, least, end int) [][]int {
	out := filled(nodes, 0)
	for i := range out {
		for j := range out[i] {
			out[i][j] = least + d.n(end-least)
		}
	}
	return out
}

// edgeBetween two nodes; nil, if there is no link.
func edgeBetween(n api.Net, from, to int) []int {
	for _, l := range n.Links {
		if l.From == from && l.To == to {
			return n.Algebra.Edges[l.Edge]
		}
	}
	return nil
}

// goes: where the table of a state must go from i to j, by the places of routes.
func goes(n api.Net, place []int, x [][]int, i, j int) int {
	best, out := n.Algebra.Size-1, -1
	for k := range n.Nodes {
		edge := edgeBetween(n, i, k)
		if i != j && edge != nil && place[edge[x[k][j]]] < place[best] {
			best, out = edge[x[k][j]], k
		}
	}
	return out
}

// H1: tables of nets of all kinds, and of whatever states.
func TestTableOfSome(t *testing.T) {
	d := draw(91)
	for i := range 1000 {
		n, place := someNet(&d, i%2 == 0, i%3 == 0)
		x := some(&d, n.Nodes, 0, n.Algebra.Size)
		y, e := table.Table(n, x)
		if e != api.OK || len(y) != n.Nodes {
			t.Fatalf("%v, %v: %v %d", n, x, y, e)
		}
		for i := range y {
			for j := range n.Nodes {
				if want := goes(n, place, x, i, j); len(y[i]) != n.Nodes || y[i][j] != want {
					t.Fatalf("%v, %v: %v, and %d must go by %d to %d", n, x, y, i, want, j)
				}
			}
		}
	}
}

// H2: walks by whatever tables.
func TestWalkOfSome(t *testing.T) {
	d := draw(92)
	met := map[bool]int{}
	for range 1000 {
		n, _ := someNet(&d, false, false)
		x := some(&d, n.Nodes, -1, n.Nodes)
		from, to := d.n(n.Nodes), d.n(n.Nodes)
		want := []int{from}
		for at := from; at != to; {
			at = x[at][to]
			if at < 0 || slices.Contains(want, at) {
				break
			}
			want = append(want, at)
		}
		is := want[len(want)-1] == to
		if l, there, e := table.Walk(n, x, from, to); e != api.OK || there != is || !slices.Equal(l, want) {
			t.Fatalf("%v, %d to %d: %v %v %d, and must be %v %v", x, from, to, l, there, e, want, is)
		}
		met[is]++
	}
	if met[true] < 200 || met[false] < 200 {
		t.Errorf("there or not: %v", met)
	}
}

// weighs: what a path weighs; false, if a link is missing.
func weighs(n api.Net, p []int) (int, bool) {
	if len(p) == 1 {
		return 0, true
	}
	edge := edgeBetween(n, p[0], p[1])
	w, ok := weighs(n, p[1:])
	if edge == nil || !ok {
		return 0, false
	}
	return edge[w], true
}

// orders: all lists of nodes without one twice that begin with these.
func orders(nodes int, begin ...int) [][]int {
	out := [][]int{begin}
	for k := range nodes {
		if !slices.Contains(begin, k) {
			out = append(out, orders(nodes, append(slices.Clone(begin), k)...)...)
		}
	}
	return out
}

// H3: what all paths weigh, one by one, and the best of them.
func TestWeighAndPathsOfSome(t *testing.T) {
	d := draw(93)
	longer := 0
	for i := range 200 {
		n, place := someNet(&d, i%2 == 0, i%3 == 0)
		for from := range n.Nodes {
			best := slices.Repeat([]int{n.Algebra.Size - 1}, n.Nodes)
			for _, p := range orders(n.Nodes, from) {
				want, ok := weighs(n, p)
				w, e := table.Weigh(n, p)
				if w != want || (e == api.OK) != ok || !ok && e != api.ErrNone {
					t.Fatalf("%v: %v weighs %d %d, and must %d", n, p, w, e, want)
				}
				to := p[len(p)-1]
				if ok && place[w] < place[best[to]] {
					best[to] = w
				}
			}
			for to, want := range best {
				if w, e := table.Paths(n, from, to); w != want || e != api.OK {
					t.Fatalf("%v: paths from %d to %d: %d %d, and must be %d", n, from, to, w, e, want)
				}
				if edge := edgeBetween(n, from, to); edge != nil && place[want] < place[edge[0]] {
					longer++
				}
			}
		}
	}
	if longer < 50 {
		t.Errorf("only %d paths were better than a link", longer)
	}
}

// settled state of a net, from some state.
func settled(d *draw, t *testing.T, n api.Net) [][]int {
	x, k, e := net.Settle(n, some(d, n.Nodes, 0, n.Algebra.Size), 1000)
	if e != api.OK || k > n.Algebra.Size {
		t.Fatalf("%v: %v %d %d", n, x, k, e)
	}
	return x
}

// H4: if the algebra is strict, each walk by the table of a settled state comes there, if there is a route, without a node twice, and weighs that; if it is distributive, too, that is Paths.
func TestWalksComeThere(t *testing.T) {
	d := draw(94)
	walks, distributive, worse := 0, 0, 0
	for i := range 400 {
		n, _ := someNet(&d, true, i%2 == 0)
		x := settled(&d, t, n)
		y, _ := table.Table(n, x)
		b, _ := algebra.Distributive(n.Algebra)
		for from := range n.Nodes {
			for to, r := range x[from] {
				l, there, e := table.Walk(n, y, from, to)
				if valid := r != n.Algebra.Size-1; there != valid || e != api.OK {
					t.Fatalf("%v: from %d to %d: %v %v %d, and the route is %d", n, from, to, l, there, e, r)
				}
				if w, e := table.Weigh(n, l); there && (w != r || e != api.OK) {
					t.Fatalf("%v: %v weighs %d %d, and the route is %d", n, l, w, e, r)
				}
				if slices.Sort(l); len(slices.Compact(slices.Clone(l))) != len(l) {
					t.Fatalf("%v: from %d to %d: %v has a node twice", n, from, to, l)
				}
				walks = max(walks, len(l))
				best, _ := table.Paths(n, from, to)
				if b.Law == api.LawNone {
					distributive++
				}
				if best != r && b.Law == api.LawNone {
					t.Fatalf("%v: from %d to %d: %d, and the best path weighs %d", n, from, to, r, best)
				} else if best != r {
					worse++
				}
			}
		}
	}
	if walks < 4 || distributive < 1000 || worse < 5 {
		t.Errorf("the longest walk has %d nodes, %d were distributive, %d others had a better path", walks, distributive, worse)
	}
}

// roomy: the same things, with spare room behind them in which something lies.
func roomy[T any](l []T, behind T) []T {
	return append(append(make([]T, 0, len(l)+2), l...), behind, behind)[:len(l)]
}

func roomyRows(rows [][]int) [][]int {
	var out [][]int
	for _, row := range rows {
		out = append(out, roomy(row, 88))
	}
	return roomy(out, []int{77})
}

// whole: a copy of all that lies in lists, and behind them.
func whole(n api.Net, lists ...[][]int) []any {
	out := []any{n.Algebra.Size, n.Nodes, len(n.Links), slices.Clone(n.Links[:cap(n.Links)])}
	for _, rows := range append(lists, n.Algebra.Best, n.Algebra.Edges) {
		out = append(out, len(rows))
		for _, row := range rows[:cap(rows)] {
			out = append(out, len(row), slices.Clone(row[:cap(row)]))
		}
	}
	return out
}

// answers of all calls, to the same things.
func answers(n api.Net, x, t [][]int, p []int) []any {
	y, e := table.Table(n, x)
	w, f := table.Weigh(n, p)
	out := []any{y, e, w, f}
	for from := range n.Nodes {
		l, there, e := table.Walk(n, t, from, 0)
		w, f := table.Paths(n, from, 0)
		out = append(out, l, there, e, w, f)
	}
	return out
}

// P2, P3: what is handed in is only read; the same comes each time, whatever was asked between; a later change of what was handed in is not seen.
func TestOnlyRead(t *testing.T) {
	d := draw(95)
	for name, n := range rights() {
		n.Algebra.Best, n.Algebra.Edges = roomyRows(n.Algebra.Best), roomyRows(n.Algebra.Edges)
		n.Links = roomy(n.Links, api.Link{From: 66})
		x, by := roomyRows(some(&d, n.Nodes, 0, n.Algebra.Size)), roomyRows(some(&d, n.Nodes, -1, n.Nodes))
		p := roomy([]int{0, 1 % n.Nodes, 0}, 55)
		before := whole(n, x, by, [][]int{p})
		first := answers(n, x, by, p)
		for _, w := range wrongNets() {
			answers(w, x, by, p)
		}
		answers(diamond(), filled(4, 0), filled(4, 1), []int{0, 1})
		again := answers(n, x, by, p)
		told := fmt.Sprint(first)
		if !reflect.DeepEqual(whole(n, x, by, [][]int{p}), before) {
			t.Errorf("%s was changed", name)
		}
		for _, row := range append(slices.Concat(x, by), p) {
			clear(row)
		}
		clear(n.Links)
		for _, l := range [][]any{first, again} {
			if fmt.Sprint(l) != told {
				t.Errorf("%s: %v, and it was %s", name, l, told)
			}
		}
	}
}

// P2: each list that comes is memory of its own, the room behind it too, though the rows that were handed in are one.
func TestOwnMemory(t *testing.T) {
	n := diamond()
	row, to := []int{0, 1, 2, 3}, []int{1, 2, 3, 0}
	x, by := [][]int{row, row, row, row}, [][]int{to, to, to, to}
	before := whole(n, x, by)
	y, _ := table.Table(n, x)
	l, _, _ := table.Walk(n, by, 0, 3)
	lists := append(slices.Clone(y), l)
	for i, l := range lists {
		for k := range l[:cap(l)] {
			l[:cap(l)][k] = 1000 + i
		}
	}
	for i, l := range lists {
		if len(l) == 0 || slices.ContainsFunc(l, func(k int) bool { return k != 1000+i }) {
			t.Errorf("list %d is %v: lists share memory", i, l)
		}
	}
	clear(y[:cap(y)])
	if !reflect.DeepEqual(whole(n, x, by), before) {
		t.Error("an answer shares memory with what was handed in")
	}
}

// ofTable: what Walk must say of a net, a table and two nodes.
func ofTable(n api.Net, x [][]int, from, to int) api.Errno {
	if e := net.Check(n); e != api.OK {
		return e
	}
	if len(x) != n.Nodes || slices.ContainsFunc(x, func(row []int) bool { return len(row) != n.Nodes }) {
		return api.ErrForm
	}
	if all := slices.Concat(x...); slices.Min(all) < -1 || slices.Max(all) >= n.Nodes || min(from, to) < 0 || max(from, to) >= n.Nodes {
		return api.ErrNone
	}
	return api.OK
}

// spoilt: something of a net, or of a state or a table, becomes anything.
func spoilt(d *draw, n *api.Net, x [][]int, number int) [][]int {
	i := d.n(n.Nodes)
	switch d.n(9) {
	case 0:
		n.Nodes = number
	case 1:
		n.Links = append(n.Links, api.Link{From: number, To: d.n(n.Nodes)})
	case 2:
		n.Algebra.Edges[0] = n.Algebra.Edges[0][1:]
	case 3:
		x[i][d.n(n.Nodes)] = number
	case 4:
		x[i] = append(x[i], number)
	case 5:
		x = x[1:]
	}
	return x
}

// P1: whatever is handed in, each call ends, and with an error nothing else comes.
func TestWhatever(t *testing.T) {
	d := draw(96)
	numbers := []int{math.MinInt, -2, -1, 0, 0, 1, 1, 2, 5, 6, 7, math.MaxInt}
	number := func() int { return numbers[d.n(len(numbers))] }
	met := map[api.Errno]int{}
	for range 20000 {
		n, _ := someNet(&d, false, false)
		x := spoilt(&d, &n, some(&d, n.Nodes, -d.n(2), min(n.Nodes, n.Algebra.Size)), number())
		from, to := number(), number()
		want := net.Fit(n, x)
		if y, e := table.Table(n, x); e != want || e != api.OK && len(y) != 0 {
			t.Fatalf("Table of %v, %v: %v %d, and must be %d", n, x, y, e, want)
		}
		want = ofTable(n, x, from, to)
		met[want]++
		l, there, e := table.Walk(n, x, from, to)
		if e != want || e != api.OK && (len(l) != 0 || there) {
			t.Fatalf("Walk of %v, %v, %d, %d: %v %v %d, and must be %d", n, x, from, to, l, there, e, want)
		}
		want = net.Check(n)
		if w, e := table.Weigh(n, nil); want == api.OK && e != api.ErrForm || want != api.OK && e != want || w != 0 {
			t.Fatalf("Weigh of %v: %d %d", n, w, e)
		}
		none := want == api.OK && (min(from, to) < 0 || max(from, to) >= n.Nodes)
		if none {
			want = api.ErrNone
		}
		if w, e := table.Paths(n, from, to); e != want || e != api.OK && w != 0 {
			t.Fatalf("Paths of %v, %d, %d: %d %d, and must be %d", n, from, to, w, e, want)
		}
		if w, e := table.Weigh(n, []int{from, to}); (none && e != api.ErrNone) || e != api.OK && w != 0 {
			t.Fatalf("Weigh of %v, %d, %d: %d %d", n, from, to, w, e)
		}
	}
	if met[api.OK] < 1000 || met[api.ErrForm] < 500 || met[api.ErrNone] < 500 {
		t.Errorf("too few of a kind: %v", met)
	}
}
