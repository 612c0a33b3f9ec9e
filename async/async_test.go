package async_test

import (
	"math"
	"reflect"
	"slices"
	"testing"

	"signpost/algebra"
	"signpost/api"
	"signpost/async"
	"signpost/net"
	"signpost/plan"
)

func hops(n int, costs ...int) api.Algebra {
	a, e := plan.Build(api.Plan{Kind: api.PlanHops, N: n, Edges: costs})
	if e != api.OK {
		panic(e)
	}
	return a
}

// pair of nodes with a link each.
func pair() api.Net {
	return api.Net{Algebra: hops(1, 1), Nodes: 2, Links: []api.Link{{From: 0, To: 1}, {From: 1, To: 0}}}
}

// line of three nodes: 0 hears from 1, 1 from 2, 2 from nobody.
func line() api.Net {
	return api.Net{Algebra: hops(4, 1), Nodes: 3, Links: []api.Link{{From: 0, To: 1}, {From: 1, To: 2}}}
}

// filled: so many rows of so many, the same number everywhere.
func filled(nodes, number int) [][]int {
	var out [][]int
	for range nodes {
		out = append(out, slices.Repeat([]int{number}, nodes))
	}
	return out
}

// turn of a net with so many nodes, of which these are active, with one age of all.
func turn(nodes, age int, active ...int) api.Turn {
	t := api.Turn{Active: make([]bool, nodes), Ages: filled(nodes, age)}
	for _, i := range active {
		t.Active[i] = true
	}
	return t
}

// turned: a turn of two nodes with something done to it.
func turned(do func(t *api.Turn)) api.Turn {
	t := turn(2, 1, 0)
	do(&t)
	return t
}

// many turns, all the same.
func many(count int, t api.Turn) []api.Turn {
	return slices.Repeat([]api.Turn{t}, count)
}

type wrong struct {
	name string
	n    api.Net
	t    []api.Turn
	want api.Errno
}

// wrongs: nets and schedules that are none; where several errors apply, the one that D1 names first.
func wrongs() []wrong {
	right := turn(2, 1, 0)
	form := turned(func(t *api.Turn) { t.Active = nil })
	far := turned(func(t *api.Turn) { t.Ages[0][1] = 21 })
	lawless, lonely, twice := pair(), pair(), pair()
	lawless.Algebra.Edges[0][1] = 0
	lonely.Nodes = 0
	twice.Links[1] = twice.Links[0]
	return []wrong{
		{"an empty net", api.Net{}, nil, api.ErrRange},
		{"a law ahead of turns", lawless, many(201, form), api.ErrState},
		{"nodes ahead of turns", lonely, []api.Turn{form}, api.ErrRange},
		{"a link ahead of turns", twice, many(201, far), api.ErrTwice},
		{"201 turns", pair(), many(201, right), api.ErrMany},
		{"201 turns ahead of form", pair(), many(201, form), api.ErrMany},
		{"201 turns ahead of ages", pair(), many(201, far), api.ErrMany},
		{"an empty turn", pair(), make([]api.Turn, 1), api.ErrForm},
		{"no Active", pair(), []api.Turn{form}, api.ErrForm},
		{"an Active too few", pair(), []api.Turn{turned(func(t *api.Turn) { t.Active = t.Active[:1] })}, api.ErrForm},
		{"an Active too many", pair(), []api.Turn{turned(func(t *api.Turn) { t.Active = append(t.Active, true) })}, api.ErrForm},
		{"no Ages", pair(), []api.Turn{turned(func(t *api.Turn) { t.Ages = nil })}, api.ErrForm},
		{"a row too few", pair(), []api.Turn{turned(func(t *api.Turn) { t.Ages = t.Ages[:1] })}, api.ErrForm},
		{"a row too many", pair(), []api.Turn{turned(func(t *api.Turn) { t.Ages = append(t.Ages, []int{1, 1}) })}, api.ErrForm},
		{"an empty row", pair(), []api.Turn{turned(func(t *api.Turn) { t.Ages[0] = nil })}, api.ErrForm},
		{"a short row", pair(), []api.Turn{turned(func(t *api.Turn) { t.Ages[1] = []int{1} })}, api.ErrForm},
		{"a long row", pair(), []api.Turn{turned(func(t *api.Turn) { t.Ages[1] = []int{1, 1, 1} })}, api.ErrForm},
		{"a row's form ahead of an age", pair(), []api.Turn{turned(func(t *api.Turn) { t.Ages[0][0], t.Ages[1] = 0, nil })}, api.ErrForm},
		{"the form of the last turn", pair(), []api.Turn{right, right, form}, api.ErrForm},
		{"age 0", pair(), []api.Turn{turned(func(t *api.Turn) { t.Ages[0][1] = 0 })}, api.ErrRange},
		{"age 21", pair(), []api.Turn{far}, api.ErrRange},
		{"the least age", pair(), []api.Turn{turned(func(t *api.Turn) { t.Ages[0][1] = math.MinInt })}, api.ErrRange},
		{"the greatest age", pair(), []api.Turn{turned(func(t *api.Turn) { t.Ages[0][1] = math.MaxInt })}, api.ErrRange},
		{"an age of a node and itself", pair(), []api.Turn{turned(func(t *api.Turn) { t.Ages[0][0] = 0 })}, api.ErrRange},
		{"an age at a node that is not active", pair(), []api.Turn{turned(func(t *api.Turn) { t.Ages[1][0] = 21 })}, api.ErrRange},
		{"an age without a link", api.Net{Algebra: hops(1), Nodes: 2}, []api.Turn{far}, api.ErrRange},
		{"an age of the last turn", pair(), []api.Turn{right, right, far}, api.ErrRange},
		{"the first turn: an age", pair(), []api.Turn{far, form}, api.ErrRange},
		{"the first turn: its form", pair(), []api.Turn{form, far}, api.ErrForm},
	}
}

// D1
func TestCheck(t *testing.T) {
	for _, w := range wrongs() {
		if e := async.Check(w.n, w.t); e != w.want {
			t.Errorf("%s: %d, and must be %d", w.name, e, w.want)
		}
	}
	for name, l := range map[string][]api.Turn{
		"nothing":                 nil,
		"no turn":                 {},
		"200 turns":               many(200, turn(2, 1, 0, 1)),
		"age 20":                  {turn(2, 20, 0)},
		"nobody is ever active":   many(3, turn(2, 1)),
		"ages of different turns": {turn(2, 1, 0), turn(2, 20, 1)},
	} {
		if e := async.Check(pair(), l); e != api.OK {
			t.Errorf("%s: %d, and must be OK", name, e)
		}
	}
}

// D1, P1: the others tell what Check says first, and nothing else.
func TestCheckComesFirst(t *testing.T) {
	for _, w := range wrongs() {
		if k, e := async.Cycles(w.n, w.t); k != 0 || e != w.want {
			t.Errorf("Cycles of %s: %d %d, and must be %d", w.name, k, e, w.want)
		}
		for _, x := range [][][]int{nil, filled(2, 0), filled(2, 9)} {
			if l, e := async.Run(w.n, x, w.t); len(l) != 0 || e != w.want {
				t.Errorf("Run of %s: %v %d, and must be %d", w.name, l, e, w.want)
			}
		}
	}
}

// D2, P1: Run tells what Fit says, too.
func TestRunFits(t *testing.T) {
	for _, c := range []struct {
		name string
		x    [][]int
		want api.Errno
	}{
		{"nothing", nil, api.ErrForm},
		{"a row too few", filled(2, 0)[:1], api.ErrForm},
		{"too many", filled(3, 0), api.ErrForm},
		{"a short row ahead of no route", [][]int{{9, 9}, {0}}, api.ErrForm},
		{"no route", [][]int{{0, 0}, {0, 3}}, api.ErrNone},
		{"no route, below", [][]int{{-1, 0}, {0, 0}}, api.ErrNone},
	} {
		for _, l := range [][]api.Turn{nil, {turn(2, 1, 0)}} {
			if s, e := async.Run(pair(), c.x, l); len(s) != 0 || e != c.want {
				t.Errorf("%s: %v %d, and must be %d", c.name, s, e, c.want)
			}
		}
	}
}

// D3, D2: the fourth example of the document.
func TestExample(t *testing.T) {
	l := []api.Turn{turn(2, 1, 0), turn(2, 1, 1)}
	if k, e := async.Cycles(pair(), l); k != 1 || e != api.OK {
		t.Errorf("Cycles: %d %d, and must be 1", k, e)
	}
	s, e := async.Run(pair(), [][]int{{0, 2}, {2, 0}}, l)
	want := [][][]int{{{0, 2}, {2, 0}}, {{0, 1}, {2, 0}}, {{0, 1}, {1, 0}}}
	if e != api.OK || !reflect.DeepEqual(s, want) {
		t.Errorf("Run: %v %d, and must be %v", s, e, want)
	}
}

// D2: what node 0 and 1 have to node 2, behind each turn.
func TestRun(t *testing.T) {
	// Node 1 is told one thing, and node 0 hears it as late as its age says.
	old := turn(3, 1, 0)
	old.Ages[0][1] = 2
	// Ages that nobody uses: of others than a link's To, and at nodes that are not active.
	odd := turn(3, 20, 0, 1)
	odd.Ages[0][1], odd.Ages[1][2] = 1, 1
	for _, c := range []struct {
		name string
		t    []api.Turn
		want [][2]int
	}{
		{"no turn", nil, [][2]int{{3, 4}}},
		{"nobody is active", many(2, turn(3, 1)), [][2]int{{3, 4}, {3, 4}, {3, 4}}},
		{"all at once", many(2, turn(3, 1, 0, 1, 2)), [][2]int{{3, 4}, {5, 1}, {2, 1}}},
		{"the far one first", []api.Turn{turn(3, 1, 1), turn(3, 1, 0)}, [][2]int{{3, 4}, {3, 1}, {2, 1}}},
		{"the near one first", []api.Turn{turn(3, 1, 0), turn(3, 1, 1)}, [][2]int{{3, 4}, {5, 4}, {5, 1}}},
		{"as old as two turns", []api.Turn{turn(3, 1, 1), old, old}, [][2]int{{3, 4}, {3, 1}, {5, 1}, {2, 1}}},
		{"older than all there was", []api.Turn{turn(3, 1, 1), turn(3, 20, 0), turn(3, 3, 0), turn(3, 3, 0)}, [][2]int{{3, 4}, {3, 1}, {5, 1}, {5, 1}, {2, 1}}},
		{"ages that nobody uses", []api.Turn{odd, odd}, [][2]int{{3, 4}, {5, 1}, {2, 1}}},
	} {
		x := [][]int{{0, 5, 3}, {5, 0, 4}, {5, 5, 0}}
		s, e := async.Run(line(), x, c.t)
		if e != api.OK || len(s) != len(c.want) {
			t.Fatalf("%s: %v %d", c.name, s, e)
		}
		for k, y := range s {
			if got := [2]int{y[0][2], y[1][2]}; got != c.want[k] {
				t.Errorf("%s: behind %d turns %v, and must be %v", c.name, k, got, c.want[k])
			}
		}
	}
}

// D3: cycles counted by hand.
func TestCycles(t *testing.T) {
	all, none := turn(3, 1, 0, 1, 2), turn(3, 1)
	at := func(age int, active ...int) api.Turn { return turn(3, age, active...) }
	unused := turn(3, 20, 0, 1, 2)
	unused.Ages[0][1], unused.Ages[1][2] = 1, 1
	for _, c := range []struct {
		name string
		t    []api.Turn
		want int
	}{
		{"no turn", nil, 0},
		{"nobody", many(9, none), 0},
		{"one never", many(9, at(1, 0, 1)), 0},
		{"all at once", many(4, all), 4},
		{"most turns", many(200, all), 200},
		{"one at a time", []api.Turn{at(1, 2), at(1, 0), at(1, 1), at(1, 1), at(1, 2), at(1, 0)}, 2},
		{"one twice ahead of another", []api.Turn{at(1, 0), at(1, 0), at(1, 1), at(1, 0), at(1, 2)}, 1},
		{"what is left is none", []api.Turn{all, at(1, 0), at(1, 1)}, 1},
		{"age 2 looks behind the end", []api.Turn{all, at(2, 0, 1, 2), all}, 2},
		{"age 2 looks at the end", []api.Turn{all, none, at(2, 0, 1, 2), all}, 3},
		{"each turn looks behind all", many(5, at(20, 0, 1, 2)), 1},
		{"a late one looks back", []api.Turn{all, all, all, all, at(5, 0)}, 1},
		{"a late one looks at the first end", []api.Turn{all, all, all, all, at(4, 0)}, 2},
		{"a late one looks back a little", []api.Turn{all, all, all, all, at(2, 0)}, 4},
		{"old, but not active", []api.Turn{all, at(20), all}, 2},
		{"old, but without a link", []api.Turn{all, at(20, 2), all}, 2},
		{"old ages of other nodes", many(3, unused), 3},
		{"the last cycle may have nothing behind it", []api.Turn{at(20, 0, 1), at(20, 2)}, 1},
	} {
		if k, e := async.Cycles(line(), c.t); k != c.want || e != api.OK {
			t.Errorf("%s: %d %d, and must be %d", c.name, k, e, c.want)
		}
	}
	alone := api.Net{Algebra: hops(1), Nodes: 1}
	if k, e := async.Cycles(alone, []api.Turn{turn(1, 20, 0), turn(1, 20), turn(1, 20, 0)}); k != 2 || e != api.OK {
		t.Errorf("one node: %d %d, and must be 2", k, e)
	}
}

// draw: numbers, the same each time.
type draw uint64

func (d *draw) n(n int) int {
	*d = *d*6364136223846793005 + 1442695040888963407
	return int(uint64(*d) >> 33 % uint64(n))
}

// some net: its routes in some order, edges that go on in it (strict: never stay).
func some(d *draw, strict bool) api.Net {
	size, nodes := 2+d.n(5), 1+d.n(4)
	order, place := make([]int, size), make([]int, size)
	for i := range order {
		order[i] = i
	}
	if size > 3 {
		order[1], order[size-2] = order[size-2], order[1]
	}
	for i, r := range order {
		place[r] = i
	}
	a := api.Algebra{Size: size}
	for x := range size {
		row := make([]int, size)
		for y := range row {
			row[y] = order[min(place[x], place[y])]
		}
		a.Best = append(a.Best, row)
	}
	for range 2 {
		edge := make([]int, size)
		for i, r := range order {
			if strict {
				i = min(i+1, size-1)
			}
			edge[r] = order[i+d.n(size-i)]
		}
		a.Edges = append(a.Edges, edge)
	}
	n := api.Net{Algebra: a, Nodes: nodes}
	for i := range nodes {
		for k := range nodes {
			if i != k && d.n(3) > 0 {
				n.Links = append(n.Links, api.Link{From: i, To: k, Edge: d.n(2)})
			}
		}
	}
	return n
}

// someState of a net.
func someState(d *draw, n api.Net) [][]int {
	out := filled(n.Nodes, 0)
	for i := range out {
		for j := range out[i] {
			out[i][j] = d.n(n.Algebra.Size)
		}
	}
	return out
}

// someTurns of a net: of so many nodes one is active, on average; ages up to the oldest one.
func someTurns(d *draw, n api.Net, count, among, oldest int) []api.Turn {
	var out []api.Turn
	for range count {
		t := turn(n.Nodes, 1)
		for i := range t.Active {
			t.Active[i] = d.n(among) == 0
			for k := range t.Ages[i] {
				t.Ages[i][k] = 1 + d.n(oldest)
			}
		}
		out = append(out, t)
	}
	return out
}

// had: what node i has to j behind k turns, as D2 tells it, with Round of a state in which each node has what i sees of it.
func had(n api.Net, x [][]int, l []api.Turn, k, i int, known map[[2]int][]int) []int {
	if k <= 0 {
		return x[i]
	}
	if r, ok := known[[2]int{k, i}]; ok {
		return r
	}
	var out []int
	if t := l[k-1]; t.Active[i] {
		var seen [][]int
		for to := range n.Nodes {
			seen = append(seen, had(n, x, l, k-t.Ages[i][to], to, known))
		}
		y, _ := net.Round(n, seen)
		out = y[i]
	} else {
		out = had(n, x, l, k-1, i, known)
	}
	known[[2]int{k, i}] = out
	return out
}

// D2: the states of schedules of all kinds.
func TestRunOfSome(t *testing.T) {
	d := draw(21)
	for i := range 150 {
		n := some(&d, i%2 == 0)
		x := someState(&d, n)
		l := someTurns(&d, n, d.n(40), 1+d.n(3), 1+d.n(20))
		s, e := async.Run(n, x, l)
		if e != api.OK || len(s) != len(l)+1 {
			t.Fatalf("%v, %v: %d states, %d", n, l, len(s), e)
		}
		known := map[[2]int][]int{}
		for k := range s {
			for i := range n.Nodes {
				if want := had(n, x, l, k, i, known); !slices.Equal(s[k][i], want) {
					t.Fatalf("%v, %v, %v: behind %d turns node %d has %v, and must have %v", n, x, l, k, i, s[k][i], want)
				}
			}
		}
	}
}

// D2: all nodes at once, with nothing old, are Rounds.
func TestRunOfRounds(t *testing.T) {
	d := draw(22)
	for i := range 100 {
		n := some(&d, i%2 == 0)
		x := someState(&d, n)
		s, _ := async.Run(n, x, someTurns(&d, n, 12, 1, 1))
		for k := range s {
			if !reflect.DeepEqual(s[k], x) {
				t.Fatalf("%v: behind %d turns %v, and must be %v", n, k, s[k], x)
			}
			x, _ = net.Round(n, x)
		}
	}
}

// ended: does a cycle that begins behind so many turns end behind so many, as D3 tells it, its first part behind mid?
func ended(n api.Net, l []api.Turn, begin, mid, end int) bool {
	for i := range n.Nodes {
		if !slices.ContainsFunc(l[begin:mid], func(t api.Turn) bool { return t.Active[i] }) {
			return false
		}
	}
	for k := end; k < len(l); k++ {
		for _, link := range n.Links {
			if l[k].Active[link.From] && k+1-l[k].Ages[link.From][link.To] < mid {
				return false
			}
		}
	}
	return true
}

// counted: cycles, each by trying all ends.
func counted(n api.Net, l []api.Turn) int {
	count := 0
	for begin := 0; ; count++ {
		mid := begin
		for mid <= len(l) && !ended(n, l, begin, mid, len(l)) {
			mid++
		}
		if mid > len(l) {
			return count
		}
		end := mid
		for !ended(n, l, begin, mid, end) {
			end++
		}
		begin = end
	}
}

// D3: cycles of schedules of all kinds.
func TestCyclesOfSome(t *testing.T) {
	d := draw(23)
	met := map[int]int{}
	for range 600 {
		n := some(&d, true)
		l := someTurns(&d, n, d.n(60), 1+d.n(3), 1+d.n(8))
		want := counted(n, l)
		if k, e := async.Cycles(n, l); k != want || e != api.OK {
			t.Fatalf("%v, %v: %d %d, and must be %d", n, l, k, e, want)
		}
		met[min(want, 5)]++
	}
	for k := range 6 {
		if met[k] < 10 {
			t.Errorf("%d cycles were met %d times", k, met[k])
		}
	}
}

// D4: if there are at least Size cycles the last state is what Settle answers.
func TestSettlesToo(t *testing.T) {
	d := draw(24)
	enough, early := 0, 0
	for range 600 {
		n := some(&d, true)
		if b, _ := algebra.Strict(n.Algebra); b.Law != api.LawNone {
			t.Fatalf("%v is not strict", n.Algebra)
		}
		x := someState(&d, n)
		want, _, _ := net.Settle(n, someState(&d, n), 1000)
		l := someTurns(&d, n, 1+d.n(70), 1+d.n(4), 1+d.n(16))
		k, _ := async.Cycles(n, l)
		s, e := async.Run(n, x, l)
		if e != api.OK {
			t.Fatalf("%v: %d", n, e)
		}
		settled := reflect.DeepEqual(s[len(s)-1], want)
		if k >= n.Algebra.Size {
			enough++
			if !settled {
				t.Fatalf("%v, %v, %v: behind %d cycles %v, and must be %v", n, x, l, k, s[len(s)-1], want)
			}
		} else if !settled {
			early++
		}
	}
	if enough < 150 || early < 20 {
		t.Errorf("%d with enough cycles, %d that had not settled yet", enough, early)
	}
}

// roomy: the same numbers, with spare room behind each list.
func roomy(rows [][]int) [][]int {
	out := make([][]int, 0, len(rows)+2)
	for _, r := range rows {
		out = append(out, append(append(make([]int, 0, len(r)+2), r...), 88, 88)[:len(r)])
	}
	return append(out, []int{77}, []int{77})[:len(rows)]
}

// roomyTurns: the same turns, with spare room behind each list.
func roomyTurns(l []api.Turn) []api.Turn {
	out := make([]api.Turn, 0, len(l)+2)
	for _, t := range l {
		active := append(make([]bool, 0, len(t.Active)+2), t.Active...)
		out = append(out, api.Turn{Active: append(active, true, true)[:len(t.Active)], Ages: roomy(t.Ages)})
	}
	return append(out, turn(1, 66), turn(1, 66))[:len(l)]
}

// whole: a copy of all that lies in lists, and behind them.
func whole(n api.Net, x [][]int, l []api.Turn) []any {
	out := []any{len(n.Links), slices.Clone(n.Links[:cap(n.Links)])}
	rows := [][][]int{n.Algebra.Best, n.Algebra.Edges, x}
	for _, t := range l[:cap(l)] {
		out = append(out, len(t.Active), slices.Clone(t.Active[:cap(t.Active)]))
		rows = append(rows, t.Ages)
	}
	for _, some := range rows {
		out = append(out, len(some))
		for _, r := range some[:cap(some)] {
			out = append(out, len(r), slices.Clone(r[:cap(r)]))
		}
	}
	return out
}

// P2, P3: what is handed in is only read; the same comes each time, whatever was asked between; a later change of what was handed in is not seen.
func TestOnlyRead(t *testing.T) {
	d := draw(25)
	for range 60 {
		n := some(&d, false)
		x, l := roomy(someState(&d, n)), roomyTurns(someTurns(&d, n, d.n(20), 2, 5))
		before := whole(n, x, l)
		async.Check(n, l)
		k, _ := async.Cycles(n, l)
		s, _ := async.Run(n, x, l)
		for _, w := range wrongs() {
			async.Run(w.n, x, w.t)
		}
		async.Run(pair(), filled(2, 0), many(3, turn(2, 2, 0, 1)))
		if k2, _ := async.Cycles(n, l); k2 != k {
			t.Fatalf("%v, %v: %d, then %d", n, l, k, k2)
		}
		again, _ := async.Run(n, x, l)
		if !reflect.DeepEqual(whole(n, x, l), before) {
			t.Fatalf("%v, %v, %v was changed", n, x, l)
		}
		for _, t := range l {
			clear(t.Active)
		}
		for _, row := range x {
			clear(row)
		}
		if !reflect.DeepEqual(s, again) {
			t.Fatalf("%v, %v: %v, then %v", n, l, s, again)
		}
	}
}

// P2: each list that comes is memory of its own, the room behind it too, though nobody looks, and the rows that were handed in are one.
func TestOwnMemory(t *testing.T) {
	x := slices.Repeat([][]int{{1, 1, 1}}, 3)
	l := []api.Turn{turn(3, 1), turn(3, 1, 0), turn(3, 1), turn(3, 2, 0, 1, 2)}
	before := whole(line(), x, l)
	s, e := async.Run(line(), x, l)
	if e != api.OK || len(s) != 5 {
		t.Fatalf("%v %d", s, e)
	}
	rows := slices.Concat(s...)
	for i, r := range rows {
		for k := range r[:cap(r)] {
			r[:cap(r)][k] = 1000 + i
		}
	}
	for i, r := range rows {
		if !slices.Equal(r, slices.Repeat([]int{1000 + i}, 3)) {
			t.Errorf("row %d is %v: rows share memory", i, r)
		}
	}
	for k, y := range s {
		for i := range y[:cap(y)] {
			y[:cap(y)][i] = []int{k}
		}
	}
	for k, y := range s {
		if !reflect.DeepEqual(y, slices.Repeat([][]int{{k}}, 3)) {
			t.Errorf("state %d is %v: states share memory", k, y)
		}
	}
	if !reflect.DeepEqual(whole(line(), x, l), before) {
		t.Errorf("an answer shares memory with what was handed in")
	}
}

// P1: whatever is handed in, each call ends, and with an error nothing else comes.
func TestWhatever(t *testing.T) {
	d := draw(26)
	numbers := []int{math.MinInt, -1, 0, 1, 1, 1, 1, 2, 2, 20, 21, math.MaxInt}
	right := 0
	for range 20000 {
		n := some(&d, false)
		x := someState(&d, n)
		l := someTurns(&d, n, d.n(5), 2, 20)
		if len(l) > 0 && d.n(2) == 0 {
			l[d.n(len(l))].Ages[d.n(n.Nodes)][d.n(n.Nodes)] = numbers[d.n(len(numbers))]
		}
		if len(l) > 0 && d.n(4) == 0 {
			l[d.n(len(l))] = turn(1+d.n(4), 1)
		}
		if d.n(4) == 0 {
			x[d.n(n.Nodes)][d.n(n.Nodes)] = numbers[d.n(len(numbers))]
		}
		want := async.Check(n, l)
		if k, e := async.Cycles(n, l); e != want || e != api.OK && k != 0 {
			t.Fatalf("Cycles of %v, %v: %d %d, and must be %d", n, l, k, e, want)
		}
		if want == api.OK {
			want = net.Fit(n, x)
		}
		s, e := async.Run(n, x, l)
		if e != want || e != api.OK && len(s) != 0 {
			t.Fatalf("Run of %v, %v, %v: %v %d, and must be %d", n, x, l, s, e, want)
		}
		if e == api.OK {
			right++
		}
	}
	if right < 2000 {
		t.Errorf("only %d were right", right)
	}
}
