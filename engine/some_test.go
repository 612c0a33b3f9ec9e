package engine_test

import (
	"math"
	"reflect"
	"slices"
	"testing"

	"signpost/algebra"
	"signpost/api"
	"signpost/engine"
	"signpost/net"
	"signpost/wire"
)

// draw: numbers, the same each time.
type draw uint64

func (d *draw) n(n int) int {
	*d = *d*6364136223846793005 + 1442695040888963407
	return int(uint64(*d) >> 33 % uint64(n))
}

// someNet: its routes in some order, edges that go on in it (strict: never stay).
func someNet(d *draw, strict bool) api.Net {
	size, nodes := 2+d.n(5), 1+d.n(5)
	order, place := make([]int, size), make([]int, size)
	for i := range order {
		order[i] = i
	}
	if size > 3 {
		order[1], order[size-2] = order[size-2], order[1]
	}
	for i, r := range order {
		place[r] = i
	}
	a := api.Algebra{Size: size}
	for x := range size {
		row := make([]int, size)
		for y := range row {
			row[y] = order[min(place[x], place[y])]
		}
		a.Best = append(a.Best, row)
	}
	for range 2 {
		edge := make([]int, size)
		for i, r := range order {
			if strict {
				i = min(i+1, size-1)
			}
			edge[r] = order[i+d.n(size-i)]
		}
		a.Edges = append(a.Edges, edge)
	}
	n := api.Net{Algebra: a, Nodes: nodes}
	for i := range nodes {
		for k := range nodes {
			if i != k && d.n(3) > 0 {
				n.Links = append(n.Links, api.Link{From: i, To: k, Edge: d.n(2)})
			}
		}
	}
	// In no order: what is rising is the nodes, not the links.
	for i := range n.Links {
		k := d.n(i + 1)
		n.Links[i], n.Links[k] = n.Links[k], n.Links[i]
	}
	return n
}

// someRoutes of a net, a route to each node.
func someRoutes(d *draw, n api.Net) []int {
	out := make([]int, n.Nodes)
	for j := range out {
		out[j] = d.n(n.Algebra.Size)
	}
	return out
}

// someMail: what a node may have told, or something like it, or anything.
func someMail(d *draw, n api.Net) api.Mail {
	m := written(d.n(n.Nodes), d.n(n.Nodes), someRoutes(d, n)...)
	switch d.n(6) {
	case 0:
		m.From = d.n(n.Nodes)
	case 1:
		m = written(m.From, m.To, append(someRoutes(d, n), 0)...)
	case 2:
		r := someRoutes(d, n)
		r[d.n(len(r))] = n.Algebra.Size
		m = written(m.From, m.To, r...)
	case 3:
		m.Bytes = m.Bytes[d.n(3):]
	}
	return m
}

// someEngine of a net: anything that Check lets through.
func someEngine(d *draw, n api.Net) api.Engine {
	e := begun(n)
	for i := range e.Routers {
		e.Routers[i].Routes = someRoutes(d, n)
		for k := range e.Routers[i].Told {
			if d.n(2) == 0 {
				e.Routers[i].Told[k] = someRoutes(d, n)
			}
		}
	}
	// Often a few, or nearly as many as there may be.
	for range []int{0, d.n(6), d.n(api.MaxBag + 1), api.MaxBag - d.n(6)}[d.n(4)] {
		e.Bag = append(e.Bag, someMail(d, n))
	}
	return e
}

// someEvent of a net, with so many on their way; one of eight has something that is none.
func someEvent(d *draw, n api.Net, bag int) api.Event {
	v := api.Event{Kind: 1 + d.n(7), At: d.n(n.Nodes), B: d.n(n.Nodes), C: 1 + d.n(255), Routes: someRoutes(d, n)}
	if v.Kind >= api.EventDeliver && v.Kind <= api.EventSpoil && bag > 0 {
		v.At = d.n(bag)
	}
	if v.Kind == api.EventSpoil {
		v.B = d.n(8)
	}
	numbers := []int{math.MinInt, -1, 0, 1, 8, 99, 256, math.MaxInt}
	number := numbers[d.n(len(numbers))]
	switch d.n(40) {
	case 0:
		v.Kind = number
	case 1:
		v.At = number
	case 2:
		v.B = number
	case 3:
		v.C = number
	case 4:
		v.Routes = append(v.Routes, number)
	case 5:
		v.Routes[0] = number
	}
	return v
}

// looked: the routes of a node by what was told, with Round of a state in which each node has that.
func looked(n api.Net, r api.Router, at int) []int {
	var x [][]int
	for _, told := range r.Told {
		if len(told) == 0 {
			told = slices.Repeat([]int{n.Algebra.Size - 1}, n.Nodes)
		}
		x = append(x, told)
	}
	y, e := net.Round(n, x)
	if e != api.OK {
		panic(e)
	}
	return y[at]
}

// linked: has a node a link to another one?
func linked(n api.Net, from, to int) bool {
	for _, l := range n.Links {
		if l.From == from && l.To == to {
			return true
		}
	}
	return false
}

// copied, all of it.
func copied(e api.Engine) api.Engine {
	out := api.Engine{Bag: slices.Clone(e.Bag)}
	for _, r := range e.Routers {
		c := api.Router{Routes: slices.Clone(r.Routes)}
		for _, told := range r.Told {
			c.Told = append(c.Told, slices.Clone(told))
		}
		out.Routers = append(out.Routers, c)
	}
	return out
}

// refusal: what F2 and F3 refuse, in their order.
func refusal(n api.Net, e api.Engine, v api.Event) api.Errno {
	end, hear := n.Nodes, 0
	if v.Kind >= api.EventDeliver && v.Kind <= api.EventSpoil {
		end = len(e.Bag)
	}
	switch {
	case v.Kind < 1 || v.Kind > 7:
		return api.ErrKind
	case v.At < 0 || v.At >= end:
		return api.ErrNone
	}
	for k := range n.Nodes {
		if linked(n, k, v.At) {
			hear++
		}
	}
	switch {
	case v.Kind == api.EventTick && len(e.Bag)+hear > 120, v.Kind == api.EventTwice && len(e.Bag) == 120:
		return api.ErrMany
	case v.Kind == api.EventSpoil && (v.B < 0 || v.B >= len(e.Bag[v.At].Bytes) || v.C < 1 || v.C > 255):
		return api.ErrRange
	case v.Kind == api.EventExpire && (v.B < 0 || v.B >= n.Nodes):
		return api.ErrNone
	case v.Kind == api.EventRestart && len(v.Routes) != n.Nodes:
		return api.ErrForm
	case v.Kind == api.EventRestart && (slices.Min(v.Routes) < 0 || slices.Max(v.Routes) >= n.Algebra.Size):
		return api.ErrNone
	}
	return api.OK
}

// stepped: the engine behind an event that is not refused, as F2 tells it.
func stepped(n api.Net, e api.Engine, v api.Event) api.Engine {
	e = copied(e)
	look := func(at int) { e.Routers[at].Routes = looked(n, e.Routers[at], at) }
	switch v.Kind {
	case api.EventTick:
		look(v.At)
		for k := range n.Nodes {
			if linked(n, k, v.At) {
				e.Bag = append(e.Bag, written(v.At, k, e.Routers[v.At].Routes...))
			}
		}
	case api.EventDeliver:
		m := e.Bag[v.At]
		e.Bag = append(e.Bag[:v.At:v.At], e.Bag[v.At+1:]...)
		p, err := wire.Read(m.Bytes)
		if err == api.OK && p.From == m.From && p.To == m.To && len(p.Routes) == n.Nodes && slices.Max(p.Routes) < n.Algebra.Size && linked(n, m.To, m.From) {
			e.Routers[m.To].Told[m.From] = p.Routes
			look(m.To)
		}
	case api.EventTwice:
		e.Bag = append(e.Bag, e.Bag[v.At])
	case api.EventLose:
		e.Bag = append(e.Bag[:v.At:v.At], e.Bag[v.At+1:]...)
	case api.EventSpoil:
		s := e.Bag[v.At].Bytes
		e.Bag[v.At].Bytes = s[:v.B] + string([]byte{s[v.B] ^ byte(v.C)}) + s[v.B+1:]
	case api.EventExpire:
		e.Routers[v.At].Told[v.B] = nil
		look(v.At)
	case api.EventRestart:
		e.Routers[v.At] = api.Router{Routes: slices.Clone(v.Routes), Told: make([][]int, n.Nodes)}
	}
	return e
}

// F2, F3: events of all kinds, one by one, and played at once.
func TestStepsOfSome(t *testing.T) {
	d := draw(41)
	met, refusedBy := map[int]int{}, map[api.Errno]int{}
	for i := range 400 {
		n := someNet(&d, i%2 == 0)
		begin := someEngine(&d, n)
		now, done := begin, 0
		var l []api.Event
		for range 1 + d.n(40) {
			v := someEvent(&d, n, len(now.Bag))
			l = append(l, v)
			want := refusal(n, now, v)
			next, e := engine.Step(n, now, v)
			if e != want || e != api.OK && !reflect.DeepEqual(next, api.Engine{}) {
				t.Fatalf("%v, %v, %v: %v %d, and must be %d", n, now, v, next, e, want)
			}
			if e != api.OK {
				refusedBy[e]++
				l = append(l, api.Event{Kind: api.EventRestart, Routes: make([]int, n.Nodes)})
				break
			}
			met[v.Kind]++
			if y := stepped(n, now, v); !same(next, y) {
				t.Fatalf("%v, %v, %v: %v, and must be %v", n, now, v, next, y)
			}
			now, done = next, done+1
		}
		if y, k, e := engine.Play(n, begin, l); !same(y, now) || k != done || e != api.OK {
			t.Fatalf("%v, %v, %v: %v %d %d, and must be %v %d", n, begin, l, y, k, e, now, done)
		}
	}
	for kind := 1; kind <= 7; kind++ {
		if met[kind] < 50 {
			t.Errorf("events of kind %d were done %d times", kind, met[kind])
		}
	}
	for _, e := range []api.Errno{api.ErrForm, api.ErrMany, api.ErrRange, api.ErrNone, api.ErrKind} {
		if refusedBy[e] == 0 {
			t.Errorf("error %d was not met", e)
		}
	}
}

// F4: Calm is what its steps are.
func TestCalmOfSome(t *testing.T) {
	d := draw(42)
	for i := range 150 {
		n := someNet(&d, i%2 == 0)
		begin, rounds := someEngine(&d, n), d.n(6)
		want := begin
		comes := func() {
			for len(want.Bag) > 0 {
				want = stepped(n, want, api.Event{Kind: api.EventDeliver})
			}
		}
		comes()
		for range rounds {
			for at := range n.Nodes {
				want = stepped(n, want, api.Event{Kind: api.EventTick, At: at})
			}
			comes()
		}
		if y, e := engine.Calm(n, begin, rounds); !same(y, want) || e != api.OK {
			t.Fatalf("%v, %v, %d rounds: %v %d, and must be %v", n, begin, rounds, y, e, want)
		}
	}
}

// F5: mail of which one byte was turned changes no router when it comes, whichever byte and however.
func TestSpoiltChangesNothing(t *testing.T) {
	d := draw(43)
	count := 0
	for range 60 {
		n := someNet(&d, true)
		x := someEngine(&d, n)
		x.Bag = nil
		x, e := engine.Step(n, x, api.Event{Kind: api.EventTick, At: d.n(n.Nodes)})
		if e != api.OK {
			t.Fatalf("%v: %d", n, e)
		}
		for at, m := range x.Bag {
			for b := range len(m.Bytes) {
				v := api.Event{Kind: api.EventSpoil, At: at, B: b, C: 1 + d.n(255)}
				y, k, e := engine.Play(n, x, []api.Event{v, {Kind: api.EventDeliver, At: at}})
				want := copied(x)
				want.Bag = slices.Delete(want.Bag, at, at+1)
				if !same(y, want) || k != 2 || e != api.OK {
					t.Fatalf("%v, %v, %v: %v %d %d, and must be %v", n, x, v, y, k, e, want)
				}
				count++
			}
		}
	}
	if count < 300 {
		t.Errorf("only %d were spoilt", count)
	}
}

// F5: after whatever, behind Size and 1 rounds of calm all routes are what Settle answers.
func TestSettlesBehindCalm(t *testing.T) {
	d := draw(44)
	early := 0
	for range 300 {
		n := someNet(&d, true)
		if b, _ := algebra.Strict(n.Algebra); b.Law != api.LawNone {
			t.Fatalf("%v is not strict", n.Algebra)
		}
		x := someEngine(&d, n)
		for range d.n(30) {
			if y, e := engine.Step(n, x, someEvent(&d, n, len(x.Bag))); e == api.OK {
				x = y
			}
		}
		begin, _ := net.Begin(n)
		want, _, _ := net.Settle(n, begin, 1000)
		for rounds := range n.Algebra.Size + 4 {
			y, e := engine.Calm(n, x, rounds)
			if e != api.OK || len(y.Bag) != 0 {
				t.Fatalf("%v, %v: %v %d", n, x, y, e)
			}
			var got [][]int
			for _, r := range y.Routers {
				got = append(got, r.Routes)
			}
			if settled := reflect.DeepEqual(got, want); !settled && rounds > n.Algebra.Size {
				t.Fatalf("%v, %v: behind %d rounds %v, and must be %v", n, x, rounds, got, want)
			} else if !settled {
				early++
			}
		}
	}
	if early < 100 {
		t.Errorf("only %d had not settled yet", early)
	}
}
