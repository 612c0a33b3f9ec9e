package engine_test

import (
	"math"
	"reflect"
	"slices"
	"strings"
	"testing"

	"signpost/api"
	"signpost/engine"
	"signpost/net"
	"signpost/plan"
	"signpost/wire"
)

func hops(n int, costs ...int) api.Algebra {
	a, e := plan.Build(api.Plan{Kind: api.PlanHops, N: n, Edges: costs})
	if e != api.OK {
		panic(e)
	}
	return a
}

// pair of nodes with a link each.
func pair() api.Net {
	return api.Net{Algebra: hops(1, 1), Nodes: 2, Links: []api.Link{{From: 0, To: 1}, {From: 1, To: 0}}}
}

// star: 1, 3 and 2 hear node 0, and 0 hears 2 and 1; routes are 0 to 4, and 5, the invalid one.
func star() api.Net {
	return api.Net{Algebra: hops(4, 1, 2), Nodes: 4, Links: []api.Link{{From: 3, To: 0}, {From: 1, To: 0}, {From: 0, To: 2, Edge: 1}, {From: 2, To: 0}, {From: 0, To: 1}}}
}

// full net: each node has a link to each other one.
func full(a api.Algebra, nodes int) api.Net {
	n := api.Net{Algebra: a, Nodes: nodes}
	for i := range nodes {
		for k := range nodes {
			if i != k {
				n.Links = append(n.Links, api.Link{From: i, To: k, Edge: (i + k) % len(a.Edges)})
			}
		}
	}
	return n
}

// begun: the engine of a net, new.
func begun(n api.Net) api.Engine {
	x, e := engine.New(n)
	if e != api.OK {
		panic(e)
	}
	return x
}

// written: mail with the packet of a node's routes.
func written(from, to int, routes ...int) api.Mail {
	s, e := wire.Write(api.Packet{From: from, To: to, Routes: routes})
	if e != api.OK {
		panic(e)
	}
	return api.Mail{From: from, To: to, Bytes: s}
}

// numbered mail, so many, of which no two are the same and none can be read.
func numbered(count int) []api.Mail {
	var out []api.Mail
	for i := range count {
		out = append(out, api.Mail{From: 1, Bytes: string([]byte{byte(i), 1})})
	}
	return out
}

// known engine of the star: node 0 was told by 1 and 2, and has looked; the others have anything. Three are on their way.
func known() api.Engine {
	x := begun(star())
	x.Routers[0] = api.Router{Routes: []int{0, 1, 2, 4}, Told: [][]int{nil, {5, 0, 5, 3}, {5, 5, 0, 5}, nil}}
	x.Routers[3].Routes = []int{4, 3, 2, 1}
	x.Bag = numbered(3)
	return x
}

// all that an engine is; an empty list is the same, nil or not.
func all(e api.Engine) []any {
	out := []any{len(e.Routers), append([]api.Mail{}, e.Bag...)}
	for _, r := range e.Routers {
		out = append(out, append([]int{}, r.Routes...), len(r.Told))
		for _, told := range r.Told {
			out = append(out, append([]int{}, told...))
		}
	}
	return out
}

func same(x, y api.Engine) bool { return reflect.DeepEqual(all(x), all(y)) }

// turned: that known engine with something done to it.
func turned(do func(e *api.Engine)) api.Engine {
	e := known()
	do(&e)
	return e
}

type wrong struct {
	name string
	n    api.Net
	e    api.Engine
	want api.Errno
}

// wrongNets, with what Check of nets says.
func wrongNets() []wrong {
	lawless, lonely, stray, self, twice := star(), star(), star(), star(), star()
	lawless.Algebra.Edges[0][1] = 0
	lonely.Nodes = 7
	stray.Links[2].Edge = 2
	self.Links[0].To = 3
	twice.Links[4] = twice.Links[2]
	return []wrong{
		{"no net", api.Net{}, api.Engine{}, api.ErrRange},
		{"a law", lawless, known(), api.ErrState},
		{"a law ahead of routers", lawless, api.Engine{}, api.ErrState},
		{"nodes", lonely, known(), api.ErrRange},
		{"a link's edge ahead of routers", stray, turned(func(e *api.Engine) { e.Routers = nil }), api.ErrNone},
		{"a link to itself ahead of the bag", self, turned(func(e *api.Engine) { e.Bag = numbered(121) }), api.ErrForm},
		{"a link twice ahead of a route", twice, turned(func(e *api.Engine) { e.Routers[0].Routes[0] = -1 }), api.ErrTwice},
	}
}

// wrongs: what is no engine; where several errors apply, the one that F1 names first.
func wrongs() []wrong {
	long := strings.Repeat("x", 61)
	out := wrongNets()
	for _, c := range []struct {
		name string
		do   func(e *api.Engine)
		want api.Errno
	}{
		{"no router", func(e *api.Engine) { e.Routers = nil }, api.ErrForm},
		{"a router too few", func(e *api.Engine) { e.Routers = e.Routers[:3] }, api.ErrForm},
		{"a router too many", func(e *api.Engine) { e.Routers = append(e.Routers, e.Routers[0]) }, api.ErrForm},
		{"an empty router", func(e *api.Engine) { e.Routers[3] = api.Router{} }, api.ErrForm},
		{"no routes", func(e *api.Engine) { e.Routers[0].Routes = nil }, api.ErrForm},
		{"a route too few", func(e *api.Engine) { e.Routers[3].Routes = make([]int, 3) }, api.ErrForm},
		{"a route too many", func(e *api.Engine) { e.Routers[2].Routes = make([]int, 5) }, api.ErrForm},
		{"none told", func(e *api.Engine) { e.Routers[0].Told = nil }, api.ErrForm},
		{"one too few told", func(e *api.Engine) { e.Routers[3].Told = make([][]int, 3) }, api.ErrForm},
		{"one too many told", func(e *api.Engine) { e.Routers[0].Told = make([][]int, 5) }, api.ErrForm},
		{"told one route", func(e *api.Engine) { e.Routers[0].Told[1] = []int{1} }, api.ErrForm},
		{"told one too few", func(e *api.Engine) { e.Routers[3].Told[3] = make([]int, 3) }, api.ErrForm},
		{"told one too many", func(e *api.Engine) { e.Routers[1].Told[0] = make([]int, 5) }, api.ErrForm},
		{"a late form ahead of an early route", func(e *api.Engine) { e.Routers[0].Routes[0], e.Routers[3].Told[3] = 6, []int{0} }, api.ErrForm},
		{"form ahead of what was told", func(e *api.Engine) { e.Routers[0].Told[1][0], e.Routers[3].Routes = -1, nil }, api.ErrForm},
		{"form ahead of the bag", func(e *api.Engine) { e.Routers[0].Told, e.Bag = nil, numbered(121) }, api.ErrForm},
		{"a route below", func(e *api.Engine) { e.Routers[0].Routes[0] = -1 }, api.ErrNone},
		{"a route above", func(e *api.Engine) { e.Routers[3].Routes[3] = 6 }, api.ErrNone},
		{"the least route", func(e *api.Engine) { e.Routers[1].Routes[3] = math.MinInt }, api.ErrNone},
		{"told a route below", func(e *api.Engine) { e.Routers[0].Told[1][3] = -1 }, api.ErrNone},
		{"told a route above", func(e *api.Engine) { e.Routers[3].Told[3] = []int{0, 1, 2, 6} }, api.ErrNone},
		{"told the greatest", func(e *api.Engine) { e.Routers[0].Told[2][0] = math.MaxInt }, api.ErrNone},
		{"a route ahead of too much mail", func(e *api.Engine) { e.Routers[3].Routes[3], e.Bag = 6, numbered(121) }, api.ErrNone},
		{"a route ahead of long mail", func(e *api.Engine) { e.Routers[0].Told[1][1], e.Bag[0].Bytes = 6, long }, api.ErrNone},
		{"too much mail", func(e *api.Engine) { e.Bag = numbered(121) }, api.ErrMany},
		{"far too much mail", func(e *api.Engine) { e.Bag = make([]api.Mail, 5000) }, api.ErrMany},
		{"too much ahead of no node", func(e *api.Engine) { e.Bag = append(numbered(120), api.Mail{From: 4}) }, api.ErrMany},
		{"From is no node", func(e *api.Engine) { e.Bag[2].From = 4 }, api.ErrNone},
		{"From below", func(e *api.Engine) { e.Bag[0].From = -1 }, api.ErrNone},
		{"To is no node", func(e *api.Engine) { e.Bag[0].To = 4 }, api.ErrNone},
		{"the least To", func(e *api.Engine) { e.Bag[2].To = math.MinInt }, api.ErrNone},
		{"the greatest From", func(e *api.Engine) { e.Bag[1].From = math.MaxInt }, api.ErrNone},
		{"no node ahead of long mail", func(e *api.Engine) { e.Bag[0].Bytes, e.Bag[2].To = long, 4 }, api.ErrNone},
		{"long mail", func(e *api.Engine) { e.Bag[0].Bytes = long }, api.ErrMany},
		{"the last mail is long", func(e *api.Engine) { e.Bag[2].Bytes = strings.Repeat("x", 9999) }, api.ErrMany},
	} {
		out = append(out, wrong{c.name, star(), turned(c.do), c.want})
	}
	return out
}

// rights: engines of the star at the edges of what is right.
func rights() map[string]api.Engine {
	return map[string]api.Engine{
		"new":                 begun(star()),
		"known":               known(),
		"most mail":           turned(func(e *api.Engine) { e.Bag = numbered(120) }),
		"empty mail":          turned(func(e *api.Engine) { e.Bag = make([]api.Mail, 120) }),
		"longest mail":        turned(func(e *api.Engine) { e.Bag[1].Bytes = strings.Repeat("x", 60) }),
		"mail without a link": turned(func(e *api.Engine) { e.Bag[0].From, e.Bag[0].To = 3, 2 }),
		"told by itself":      turned(func(e *api.Engine) { e.Routers[0].Told[0] = []int{5, 5, 5, 5} }),
		"told without a link": turned(func(e *api.Engine) { e.Routers[3].Told[2] = make([]int, 4) }),
		"told as empty":       turned(func(e *api.Engine) { e.Routers[0].Told[1] = []int{} }),
		"any routes":          turned(func(e *api.Engine) { e.Routers[2].Routes = []int{5, 0, 5, 0} }),
	}
}

// F1
func TestNew(t *testing.T) {
	for _, w := range wrongNets() {
		if x, e := engine.New(w.n); !reflect.DeepEqual(x, api.Engine{}) || e != w.want {
			t.Errorf("%s: %v %d, and must be %d", w.name, x, e, w.want)
		}
	}
	for _, n := range []api.Net{pair(), star(), {Algebra: hops(1), Nodes: 1}, full(hops(22, 1, 22), 6)} {
		x, e := engine.New(n)
		begin, _ := net.Begin(n)
		if e != api.OK || len(x.Routers) != n.Nodes || len(x.Bag) != 0 {
			t.Fatalf("%v: %v %d", n, x, e)
		}
		for i, r := range x.Routers {
			told := slices.ContainsFunc(r.Told, func(l []int) bool { return len(l) > 0 })
			if !slices.Equal(r.Routes, begin[i]) || len(r.Told) != n.Nodes || told {
				t.Errorf("%v: router %d is %v", n, i, r)
			}
		}
		if e := engine.Check(n, x); e != api.OK {
			t.Errorf("%v: Check of what is new: %d", n, e)
		}
	}
}

// F1
func TestCheck(t *testing.T) {
	for _, w := range wrongs() {
		if e := engine.Check(w.n, w.e); e != w.want {
			t.Errorf("%s: %d, and must be %d", w.name, e, w.want)
		}
	}
	for name, x := range rights() {
		if e := engine.Check(star(), x); e != api.OK {
			t.Errorf("%s: %d, and must be OK", name, e)
		}
	}
}

// F1, F3, F4, P1: the others tell what Check says first, and nothing else.
func TestCheckComesFirst(t *testing.T) {
	for _, w := range wrongs() {
		for _, v := range []api.Event{{}, {Kind: api.EventTick}, {Kind: api.EventDeliver, At: 999}, {Kind: api.EventRestart}} {
			if x, e := engine.Step(w.n, w.e, v); !reflect.DeepEqual(x, api.Engine{}) || e != w.want {
				t.Errorf("Step of %s: %v %d, and must be %d", w.name, x, e, w.want)
			}
		}
		for _, l := range [][]api.Event{nil, make([]api.Event, 301), {{Kind: api.EventTick}}} {
			if x, k, e := engine.Play(w.n, w.e, l); !reflect.DeepEqual(x, api.Engine{}) || k != 0 || e != w.want {
				t.Errorf("Play of %s: %v %d %d, and must be %d", w.name, x, k, e, w.want)
			}
		}
		for _, rounds := range []int{-1, 0, 1, 101} {
			if x, e := engine.Calm(w.n, w.e, rounds); !reflect.DeepEqual(x, api.Engine{}) || e != w.want {
				t.Errorf("Calm of %s: %v %d, and must be %d", w.name, x, e, w.want)
			}
		}
	}
}

// F2: the sixth example of the document.
func TestExample(t *testing.T) {
	x, k, e := engine.Play(pair(), begun(pair()), []api.Event{{Kind: api.EventTick, At: 1}, {Kind: api.EventDeliver}})
	if k != 2 || e != api.OK || !slices.Equal(x.Routers[0].Routes, []int{0, 1}) {
		t.Errorf("%v %d %d: node 0 knows no route to 1", x, k, e)
	}
}

// F2: what each event does to the known engine, told by hand; all else stays as it is.
func TestStep(t *testing.T) {
	heard := func(m api.Mail) func(e *api.Engine) { return func(e *api.Engine) { e.Bag[1] = m } }
	lost := func(e *api.Engine) { e.Bag = []api.Mail{numbered(3)[0], numbered(3)[2]} }
	none := func(e *api.Engine) {}
	second := api.Event{Kind: api.EventDeliver, At: 1}
	for _, c := range []struct {
		name     string
		do, then func(e *api.Engine)
		v        api.Event
	}{
		{"one that all hear ticks, rising", none, func(e *api.Engine) {
			e.Bag = append(e.Bag, written(0, 1, 0, 1, 2, 4), written(0, 2, 0, 1, 2, 4), written(0, 3, 0, 1, 2, 4))
		}, api.Event{Kind: api.EventTick, B: -1, C: -1, Routes: []int{9}}},
		{"one that looks ahead of telling ticks", func(e *api.Engine) { e.Routers[2].Routes = make([]int, 4) }, func(e *api.Engine) {
			e.Routers[2].Routes = []int{5, 5, 0, 5}
			e.Bag = append(e.Bag, written(2, 0, 5, 5, 0, 5))
		}, api.Event{Kind: api.EventTick, At: 2}},
		{"one that nobody hears ticks", none, func(e *api.Engine) { e.Routers[3].Routes = []int{5, 5, 5, 0} }, api.Event{Kind: api.EventTick, At: 3}},
		{"one looks at what all told", func(e *api.Engine) {
			e.Routers[0] = api.Router{Routes: make([]int, 4), Told: [][]int{{0, 0, 0, 0}, {0, 0, 5, 2}, {0, 5, 0, 0}, {0, 0, 0, 0}}}
		}, func(e *api.Engine) {
			e.Routers[0] = api.Router{Routes: []int{0, 1, 2, 2}, Told: [][]int{{0, 0, 0, 0}, {0, 0, 5, 2}, {0, 5, 0, 0}, {0, 0, 0, 0}}}
			e.Bag = append(e.Bag, written(0, 1, 0, 1, 2, 2), written(0, 2, 0, 1, 2, 2), written(0, 3, 0, 1, 2, 2))
		}, api.Event{Kind: api.EventTick}},
		{"mail comes", heard(written(1, 0, 0, 0, 0, 0)), func(e *api.Engine) {
			lost(e)
			e.Routers[0].Routes, e.Routers[0].Told[1] = []int{0, 1, 1, 1}, []int{0, 0, 0, 0}
		}, second},
		{"mail comes to one that was told nothing", heard(written(0, 3, 0, 1, 2, 5)), func(e *api.Engine) {
			lost(e)
			e.Routers[3].Routes, e.Routers[3].Told[0] = []int{1, 2, 3, 0}, []int{0, 1, 2, 5}
		}, second},
		{"mail comes that can't be read", none, lost, second},
		{"empty mail comes", heard(api.Mail{From: 0, To: 3}), lost, second},
		{"mail comes from another one", heard(api.Mail{From: 0, To: 3, Bytes: written(1, 3, 0, 0, 0, 0).Bytes}), lost, second},
		{"mail comes for another one", heard(api.Mail{From: 0, To: 3, Bytes: written(0, 1, 0, 0, 0, 0).Bytes}), lost, second},
		{"mail comes with the other way round", heard(api.Mail{From: 0, To: 1, Bytes: written(1, 0, 0, 0, 0, 0).Bytes}), lost, second},
		{"a route too few comes", heard(written(0, 3, 0, 0, 0)), lost, second},
		{"a route too many comes", heard(written(0, 3, 0, 0, 0, 0, 0)), lost, second},
		{"no routes come", heard(written(0, 3)), lost, second},
		{"one comes that is no route", heard(written(0, 3, 0, 0, 0, 6)), lost, second},
		{"mail comes from one without a link", heard(written(1, 3, 0, 0, 0, 0)), lost, second},
		{"mail comes against the link", heard(written(3, 0, 0, 0, 0, 0)), lost, second},
		{"mail comes from one to itself", heard(written(3, 3, 0, 0, 0, 0)), lost, second},
		{"the first mail comes", none, func(e *api.Engine) { e.Bag = e.Bag[1:] }, api.Event{Kind: api.EventDeliver}},
		{"the last mail comes", none, func(e *api.Engine) { e.Bag = e.Bag[:2] }, api.Event{Kind: api.EventDeliver, At: 2}},
		{"once more", none, func(e *api.Engine) { e.Bag = append(e.Bag, e.Bag[1]) }, api.Event{Kind: api.EventTwice, At: 1}},
		{"lost", none, lost, api.Event{Kind: api.EventLose, At: 1}},
		{"lost, though it could be read", heard(written(1, 0, 0, 0, 0, 0)), lost, api.Event{Kind: api.EventLose, At: 1}},
		{"the first byte is turned", none, func(e *api.Engine) { e.Bag[1].Bytes = "\x80\x01" }, api.Event{Kind: api.EventSpoil, At: 1, C: 129}},
		{"the last byte is turned", none, func(e *api.Engine) { e.Bag[2].Bytes = "\x02\xfe" }, api.Event{Kind: api.EventSpoil, At: 2, B: 1, C: 255}},
		{"what was told expires", none, func(e *api.Engine) {
			e.Routers[0] = api.Router{Routes: []int{0, 5, 2, 5}, Told: [][]int{nil, nil, {5, 5, 0, 5}, nil}}
		}, api.Event{Kind: api.EventExpire, B: 1}},
		{"nothing expires, and it looks", none, func(e *api.Engine) { e.Routers[3].Routes = []int{5, 5, 5, 0} }, api.Event{Kind: api.EventExpire, At: 3}},
		{"a node itself expires, and it looks", none, func(e *api.Engine) { e.Routers[3].Routes = []int{5, 5, 5, 0} }, api.Event{Kind: api.EventExpire, At: 3, B: 3}},
		{"anew", none, func(e *api.Engine) {
			e.Routers[0] = api.Router{Routes: []int{5, 0, 5, 0}, Told: make([][]int, 4)}
		}, api.Event{Kind: api.EventRestart, Routes: []int{5, 0, 5, 0}}},
	} {
		x := turned(c.do)
		want := turned(c.do)
		c.then(&want)
		if y, e := engine.Step(star(), x, c.v); e != api.OK || !same(y, want) {
			t.Errorf("%s: %v %d, and must be %v", c.name, y, e, want)
		}
	}
}

// F2: at most MaxBag are on their way.
func TestBagIsFull(t *testing.T) {
	for _, c := range []struct {
		name  string
		count int
		v     api.Event
		want  api.Errno
	}{
		{"room for three", 117, api.Event{Kind: api.EventTick}, api.OK},
		{"no room for the third", 118, api.Event{Kind: api.EventTick}, api.ErrMany},
		{"no room", 120, api.Event{Kind: api.EventTick}, api.ErrMany},
		{"room for one", 119, api.Event{Kind: api.EventTick, At: 2}, api.OK},
		{"no room for one", 120, api.Event{Kind: api.EventTick, At: 2}, api.ErrMany},
		{"nobody hears", 120, api.Event{Kind: api.EventTick, At: 3}, api.OK},
		{"room for one twice", 119, api.Event{Kind: api.EventTwice, At: 118}, api.OK},
		{"no room for one twice", 120, api.Event{Kind: api.EventTwice}, api.ErrMany},
		{"no mail ahead of no room", 120, api.Event{Kind: api.EventTwice, At: 120}, api.ErrNone},
		{"no node ahead of no room", 120, api.Event{Kind: api.EventTick, At: 4}, api.ErrNone},
		{"what comes needs no room", 120, api.Event{Kind: api.EventDeliver, At: 119}, api.OK},
		{"what is spoilt needs none", 120, api.Event{Kind: api.EventSpoil, At: 119, C: 1}, api.OK},
	} {
		x := begun(star())
		x.Bag = numbered(c.count)
		y, e := engine.Step(star(), x, c.v)
		if e != c.want || e != api.OK && !reflect.DeepEqual(y, api.Engine{}) {
			t.Errorf("%s: %v %d, and must be %d", c.name, y, e, c.want)
		}
	}
}

type refused struct {
	name string
	v    api.Event
	want api.Errno
}

// refusals: events that the known engine refuses; where several errors apply, the one that F3 names first.
func refusals() []refused {
	out := []refused{
		{"no byte", api.Event{Kind: api.EventSpoil, B: 2, C: 1}, api.ErrRange},
		{"a byte below", api.Event{Kind: api.EventSpoil, B: -1, C: 1}, api.ErrRange},
		{"the greatest byte", api.Event{Kind: api.EventSpoil, B: math.MaxInt, C: 1}, api.ErrRange},
		{"no bits", api.Event{Kind: api.EventSpoil}, api.ErrRange},
		{"bits above", api.Event{Kind: api.EventSpoil, C: 256}, api.ErrRange},
		{"bits below", api.Event{Kind: api.EventSpoil, C: -1}, api.ErrRange},
		{"bits of which a byte is left", api.Event{Kind: api.EventSpoil, C: 257}, api.ErrRange},
		{"no mail ahead of no byte", api.Event{Kind: api.EventSpoil, At: 3, B: 2, C: 256}, api.ErrNone},
		{"B is no node", api.Event{Kind: api.EventExpire, B: 4}, api.ErrNone},
		{"B is below", api.Event{Kind: api.EventExpire, B: -1}, api.ErrNone},
		{"no routes", api.Event{Kind: api.EventRestart}, api.ErrForm},
		{"a route too few", api.Event{Kind: api.EventRestart, Routes: make([]int, 3)}, api.ErrForm},
		{"a route too many", api.Event{Kind: api.EventRestart, Routes: make([]int, 5)}, api.ErrForm},
		{"form ahead of a route", api.Event{Kind: api.EventRestart, Routes: []int{6, -1, 6}}, api.ErrForm},
		{"one is no route", api.Event{Kind: api.EventRestart, Routes: []int{0, 0, 0, 6}}, api.ErrNone},
		{"one is below", api.Event{Kind: api.EventRestart, Routes: []int{-1, 0, 0, 0}}, api.ErrNone},
		{"no node ahead of form", api.Event{Kind: api.EventRestart, At: 4}, api.ErrNone},
		{"no node ahead of a route", api.Event{Kind: api.EventRestart, At: -1, Routes: []int{9}}, api.ErrNone},
	}
	for _, kind := range []int{0, 8, -1, math.MinInt, math.MaxInt} {
		out = append(out, refused{"no kind", api.Event{Kind: kind, At: 1, B: 1, C: 1, Routes: make([]int, 4)}, api.ErrKind})
		out = append(out, refused{"no kind ahead of no node", api.Event{Kind: kind, At: 99, B: 99, C: 999}, api.ErrKind})
	}
	for _, kind := range []int{api.EventTick, api.EventExpire, api.EventRestart} {
		for _, at := range []int{4, -1, math.MinInt, math.MaxInt} {
			out = append(out, refused{"no node", api.Event{Kind: kind, At: at, Routes: make([]int, 4)}, api.ErrNone})
		}
	}
	for _, kind := range []int{api.EventDeliver, api.EventTwice, api.EventLose, api.EventSpoil} {
		for _, at := range []int{3, -1, math.MinInt, math.MaxInt} {
			out = append(out, refused{"no mail", api.Event{Kind: kind, At: at, C: 1}, api.ErrNone})
		}
	}
	return out
}

// F2, F3, P1: with an error no engine comes; Play stops there, with the engine then, and tells no error.
func TestStepWrong(t *testing.T) {
	lose := api.Event{Kind: api.EventLose}
	then, _ := engine.Step(star(), known(), lose)
	for _, r := range refusals() {
		if x, e := engine.Step(star(), known(), r.v); !reflect.DeepEqual(x, api.Engine{}) || e != r.want {
			t.Errorf("%s: Step of %v: %v %d, and must be %d", r.name, r.v, x, e, r.want)
		}
		if x, k, e := engine.Play(star(), known(), []api.Event{r.v, lose}); !same(x, known()) || k != 0 || e != api.OK {
			t.Errorf("%s: Play of %v: %v %d %d, and must be as it was", r.name, r.v, x, k, e)
		}
		if x, k, e := engine.Play(star(), known(), []api.Event{lose, r.v, lose}); !same(x, then) || k != 1 || e != api.OK {
			t.Errorf("%s: Play of %v behind another one: %v %d %d, and must be %v", r.name, r.v, x, k, e, then)
		}
	}
}

// F3: how many events may be played, and those that were done.
func TestPlay(t *testing.T) {
	ticks := slices.Repeat([]api.Event{{Kind: api.EventTick, At: 3}}, 301)
	if x, k, e := engine.Play(star(), known(), ticks); !reflect.DeepEqual(x, api.Engine{}) || k != 0 || e != api.ErrMany {
		t.Errorf("301 events: %v %d %d, and must be ErrMany", x, k, e)
	}
	if x, k, e := engine.Play(star(), known(), make([]api.Event, 301)); !reflect.DeepEqual(x, api.Engine{}) || k != 0 || e != api.ErrMany {
		t.Errorf("301 events of no kind: %v %d %d, and must be ErrMany", x, k, e)
	}
	if _, k, e := engine.Play(star(), known(), ticks[:300]); k != 300 || e != api.OK {
		t.Errorf("300 events: %d %d, and must be 300", k, e)
	}
	if x, k, e := engine.Play(star(), known(), nil); !same(x, known()) || k != 0 || e != api.OK {
		t.Errorf("no event: %v %d %d", x, k, e)
	}
	// The bag is full behind 39 ticks of three each, with three that were there.
	tell := slices.Repeat([]api.Event{{Kind: api.EventTick}}, 50)
	if x, k, e := engine.Play(star(), known(), tell); len(x.Bag) != 120 || k != 39 || e != api.OK {
		t.Errorf("50 ticks: %d on their way, %d done, %d", len(x.Bag), k, e)
	}
}

// F4: how many rounds may be asked for, and what they do, told by hand.
func TestCalm(t *testing.T) {
	for _, rounds := range []int{math.MinInt, -1, 101, math.MaxInt} {
		if x, e := engine.Calm(star(), known(), rounds); !reflect.DeepEqual(x, api.Engine{}) || e != api.ErrRange {
			t.Errorf("%d rounds: %v %d, and must be ErrRange", rounds, x, e)
		}
	}
	if _, e := engine.Calm(star(), known(), 100); e != api.OK {
		t.Errorf("100 rounds: %d", e)
	}
	// Of two that were told by the same one the last counts; nobody looks who hears nothing.
	x := turned(func(e *api.Engine) { e.Bag = append(e.Bag, written(1, 0, 5, 0, 5, 1), written(1, 0, 5, 0, 5, 2)) })
	want := turned(func(e *api.Engine) {
		e.Bag = nil
		e.Routers[0].Routes, e.Routers[0].Told[1] = []int{0, 1, 2, 3}, []int{5, 0, 5, 2}
	})
	if y, e := engine.Calm(star(), x, 0); !same(y, want) || e != api.OK {
		t.Errorf("no round: %v %d, and must be %v", y, e, want)
	}
	// A round: all tick ahead of all that comes, so 1 does not hear of 2 yet.
	line := api.Net{Algebra: hops(4, 1), Nodes: 3, Links: []api.Link{{From: 0, To: 1}, {From: 1, To: 2}}}
	for rounds, want := range [][]int{{0, 5, 5}, {0, 1, 5}, {0, 1, 2}, {0, 1, 2}} {
		if y, e := engine.Calm(line, begun(line), rounds); !slices.Equal(y.Routers[0].Routes, want) || len(y.Bag) != 0 || e != api.OK {
			t.Errorf("%d rounds: %v %d, and node 0 must have %v", rounds, y, e, want)
		}
	}
	// The bag is full at first, and a net with all links fills it with 30 each round.
	n := full(hops(22, 1, 3), 6)
	y := begun(n)
	y.Bag = slices.Repeat([]api.Mail{written(1, 0, 22, 0, 22, 22, 22, 22)}, 120)
	if z, e := engine.Calm(n, y, 100); len(z.Bag) != 0 || e != api.OK {
		t.Errorf("all links: %v %d", z, e)
	}
}
