package path_test

import (
	"fmt"
	"math"
	"reflect"
	"slices"
	"testing"

	"signpost/api"
	"signpost/net"
	"signpost/path"
)

// roomy: the same things, with spare room behind them in which something lies.
func roomy[T any](l []T, behind T) []T {
	return append(append(make([]T, 0, len(l)+2), l...), behind, behind)[:len(l)]
}

func roomyRoute(r api.Route) api.Route {
	return api.Route{Weight: r.Weight, Path: roomy(r.Path, 88)}
}

func roomyState(x [][]api.Route) [][]api.Route {
	var out [][]api.Route
	for _, row := range x {
		var l []api.Route
		for _, r := range row {
			l = append(l, roomyRoute(r))
		}
		out = append(out, roomy(l, route(77, 77)))
	}
	return roomy(out, []api.Route{route(66)})
}

func roomyNet(n api.Net) api.Net {
	rows := func(l [][]int) [][]int {
		var out [][]int
		for _, row := range l {
			out = append(out, roomy(row, 55))
		}
		return roomy(out, []int{44})
	}
	n.Algebra.Best, n.Algebra.Edges = rows(n.Algebra.Best), rows(n.Algebra.Edges)
	n.Links = roomy(n.Links, api.Link{From: 33})
	return n
}

// whole: a copy of all that lies in lists, and behind them.
func whole(n api.Net, x [][]api.Route) []any {
	out := []any{n.Algebra.Size, n.Nodes, len(n.Links), slices.Clone(n.Links[:cap(n.Links)])}
	for _, rows := range [][][]int{n.Algebra.Best, n.Algebra.Edges} {
		for _, row := range rows[:cap(rows)] {
			out = append(out, len(rows), len(row), slices.Clone(row[:cap(row)]))
		}
	}
	for _, row := range x[:cap(x)] {
		out = append(out, len(x), len(row))
		for _, r := range row[:cap(row)] {
			out = append(out, r.Weight, len(r.Path), slices.Clone(r.Path[:cap(r.Path)]))
		}
	}
	return out
}

// pieces that come of all calls, of the same things: states, those that come alone as one of a single route.
func pieces(n api.Net, x [][]api.Route) [][][]api.Route {
	out := make([][][]api.Route, 4)
	out[0], _ = path.Round(n, x)
	for i, most := range []int{0, 1, 50} {
		out[1+i], _, _ = path.Settle(n, x, most)
	}
	r, _ := path.Best(n, x[0][0], x[n.Nodes-1][0])
	out = append(out, [][]api.Route{{r}})
	for l, link := range n.Links {
		r, _ := path.Extend(n, link.From, l, x[link.To][0])
		out = append(out, [][]api.Route{{r}})
	}
	return out
}

// P2, P3: what is handed in is only read; the same comes each time, whatever was asked between; a later change of what was handed in is not seen.
func TestOnlyRead(t *testing.T) {
	d := draw(81)
	for name, n := range rights() {
		n = roomyNet(n)
		x := roomyState(someState(&d, n))
		before := whole(n, x)
		first := pieces(n, x)
		path.Fit(n, x)
		for _, w := range wrongNets() {
			path.Settle(w, x, 1)
		}
		pieces(diamond(), nothing(diamond()))
		again := pieces(n, x)
		told := fmt.Sprint(first)
		if !reflect.DeepEqual(whole(n, x), before) {
			t.Errorf("%s was changed", name)
		}
		for _, row := range x {
			for _, r := range row {
				clear(r.Path)
			}
			clear(row)
		}
		clear(n.Links)
		for _, l := range [][][][]api.Route{first, again} {
			if fmt.Sprint(l) != told {
				t.Errorf("%s: %v, and it was %s", name, l, told)
			}
		}
	}
}

// overwritten: each node of the paths, and of the room behind them, becomes its path's number.
func overwritten(x [][]api.Route) [][]int {
	var lists [][]int
	for _, row := range x {
		for _, r := range row {
			lists = append(lists, r.Path)
		}
	}
	for i, l := range lists {
		for k := range l[:cap(l)] {
			l[:cap(l)][k] = 1000 + i
		}
	}
	return lists
}

// P2: each list that comes is memory of its own, the room behind it too, though the paths that were handed in are pieces of one.
func TestOwnMemory(t *testing.T) {
	n := diamond()
	shared := []int{0, 1, 2, 3, 3, 2, 1, 0}
	x := nothing(n)
	for i := range 4 {
		x[i][i] = route(1, shared[i:i+1]...)
		x[i][3] = route(1, shared[i:4]...)
	}
	settled, _, _ := path.Settle(n, x, 1000)
	for _, x := range [][][]api.Route{x, settled} {
		before := whole(n, x)
		for call, y := range pieces(n, x) {
			for i, l := range overwritten(y) {
				if slices.ContainsFunc(l, func(k int) bool { return k != 1000+i }) {
					t.Errorf("answer %d: paths share memory", call)
				}
			}
			for i, row := range y {
				for k := range row[:cap(row)] {
					row[:cap(row)][k] = route(i)
				}
			}
			for i, row := range y {
				if slices.ContainsFunc(row, func(r api.Route) bool { return r.Weight != i }) {
					t.Errorf("answer %d: rows share memory", call)
				}
			}
			clear(y[:cap(y)])
			if !reflect.DeepEqual(whole(n, x), before) {
				t.Fatalf("answer %d shares memory with what was handed in", call)
			}
		}
	}
}

// isRight as G1 tells it.
func isRight(n api.Net, r api.Route) bool {
	if r.Weight < 0 || r.Weight >= n.Algebra.Size || r.Weight == n.Algebra.Size-1 {
		return r.Weight == n.Algebra.Size-1 && len(r.Path) == 0
	}
	for i, k := range r.Path {
		if k < 0 || k >= n.Nodes || slices.Contains(r.Path[:i], k) {
			return false
		}
	}
	return len(r.Path) > 0
}

// fitting: what Fit must say of a state.
func fitting(n api.Net, x [][]api.Route) api.Errno {
	if e := net.Check(n); e != api.OK {
		return e
	}
	if len(x) != n.Nodes || slices.ContainsFunc(x, func(row []api.Route) bool { return len(row) != n.Nodes }) {
		return api.ErrForm
	}
	for i, row := range x {
		for j, r := range row {
			if !isRight(n, r) || len(r.Path) > 0 && (r.Path[0] != i || r.Path[len(r.Path)-1] != j) {
				return api.ErrState
			}
		}
	}
	return api.OK
}

// extending: what Extend must say.
func extending(n api.Net, from, l int, r api.Route) api.Errno {
	e := net.Check(n)
	switch {
	case e != api.OK:
		return e
	case l < 0 || l >= len(n.Links):
		return api.ErrNone
	case n.Links[l].From != from:
		return api.ErrForm
	case !isRight(n, r) || len(r.Path) > 0 && r.Path[0] != n.Links[l].To:
		return api.ErrState
	}
	return api.OK
}

// spoilt: something of a state, or of its net, becomes anything.
func spoilt(d *draw, n *api.Net, x [][]api.Route) [][]api.Route {
	numbers := []int{math.MinInt, -1, 0, 1, 2, 5, 6, 7, 99, math.MaxInt}
	number := numbers[d.n(len(numbers))]
	i := d.n(n.Nodes)
	r := &x[i][d.n(n.Nodes)]
	switch d.n(12) {
	case 0:
		n.Nodes = number
	case 1:
		n.Links = append(n.Links, api.Link{From: number, To: d.n(n.Nodes)})
	case 2:
		n.Algebra.Edges[0] = n.Algebra.Edges[0][1:]
	case 3:
		r.Weight = number
	case 4:
		r.Path = append(r.Path, number)
	case 5:
		r.Path = slices.Insert(r.Path, 0, number)
	case 6:
		r.Path = nil
	case 7:
		x = x[1:]
	case 8:
		x[i] = append(x[i], *r)
	}
	return x
}

// P1: whatever is handed in, each call ends, and with an error nothing else comes.
func TestWhatever(t *testing.T) {
	d := draw(82)
	met := map[api.Errno]int{}
	for range 20000 {
		n, _ := someNet(&d, false)
		x := spoilt(&d, &n, someState(&d, n))
		want := fitting(n, x)
		met[want]++
		if e := path.Fit(n, x); e != want {
			t.Fatalf("Fit of %v, %v: %d, and must be %d", n, x, e, want)
		}
		y, e := path.Round(n, x)
		if e != want || e != api.OK && len(y) != 0 {
			t.Fatalf("Round of %v, %v: %v %d, and must be %d", n, x, y, e, want)
		}
		// What comes fits, too.
		if e == api.OK && path.Fit(n, y) != api.OK {
			t.Fatalf("Round of %v, %v: %v does not fit", n, x, y)
		}
		if y, k, e := path.Settle(n, x, d.n(3)); e != want || e != api.OK && (len(y) != 0 || k != 0) {
			t.Fatalf("Settle of %v, %v: %v %d %d, and must be %d", n, x, y, k, e, want)
		}
		if len(x) == 0 || len(x[0]) == 0 {
			continue
		}
		a, b := x[0][0], x[len(x)-1][0]
		bestErr := net.Check(n)
		if bestErr == api.OK && !(isRight(n, a) && isRight(n, b)) {
			bestErr = api.ErrState
		}
		if r, e := path.Best(n, a, b); e != bestErr || e != api.OK && !zero(r) {
			t.Fatalf("Best of %v, %v, %v: %v %d, and must be %d", n, a, b, r, e, bestErr)
		}
		from, l := d.n(4)-1, d.n(6)-1
		extendErr := extending(n, from, l, b)
		if r, e := path.Extend(n, from, l, b); e != extendErr || e != api.OK && !zero(r) {
			t.Fatalf("Extend of %v, %d, %d, %v: %v %d, and must be %d", n, from, l, b, r, e, extendErr)
		}
	}
	if met[api.OK] < 2000 || met[api.ErrForm] < 500 || met[api.ErrState] < 500 {
		t.Errorf("too few of a kind: %v", met)
	}
}
