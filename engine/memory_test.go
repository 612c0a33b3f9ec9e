package engine_test

import (
	"math"
	"reflect"
	"slices"
	"testing"

	"signpost/api"
	"signpost/engine"
)

// roomy: the same numbers, with spare room behind them.
func roomy(l []int) []int {
	return append(append(make([]int, 0, len(l)+2), l...), 88, 88)[:len(l)]
}

// roomyEngine: the same engine, with spare room behind each list.
func roomyEngine(e api.Engine) api.Engine {
	out := api.Engine{Routers: make([]api.Router, 0, len(e.Routers)+2), Bag: make([]api.Mail, 0, len(e.Bag)+5)}
	for _, r := range e.Routers {
		told := make([][]int, 0, len(r.Told)+2)
		for _, l := range r.Told {
			told = append(told, roomy(l))
		}
		out.Routers = append(out.Routers, api.Router{Routes: roomy(r.Routes), Told: append(told, []int{77}, []int{77})[:len(r.Told)]})
	}
	out.Routers = append(out.Routers, api.Router{Routes: []int{66}}, api.Router{})[:len(e.Routers)]
	out.Bag = append(append(out.Bag, e.Bag...), api.Mail{Bytes: "a"}, api.Mail{Bytes: "b"}, api.Mail{Bytes: "c"})[:len(e.Bag)]
	return out
}

// whole: a copy of all that lies in lists, and behind them.
func whole(n api.Net, e api.Engine, l []api.Event) []any {
	out := []any{len(n.Links), slices.Clone(n.Links[:cap(n.Links)]), len(e.Bag), slices.Clone(e.Bag[:cap(e.Bag)]), len(e.Routers), len(l)}
	lists := slices.Concat(n.Algebra.Best, n.Algebra.Edges)
	for _, r := range e.Routers[:cap(e.Routers)] {
		lists = append(append(lists, r.Routes), r.Told[:cap(r.Told)]...)
		out = append(out, len(r.Told))
	}
	for _, v := range l[:cap(l)] {
		out = append(out, v.Kind, v.At, v.B, v.C)
		lists = append(lists, v.Routes)
	}
	for _, x := range lists {
		out = append(out, len(x), slices.Clone(x[:cap(x)]))
	}
	return out
}

// answers of all calls, to the same things.
func answers(n api.Net, e api.Engine, l []api.Event) []any {
	x, err := engine.New(n)
	out := []any{x, err, engine.Check(n, e)}
	for _, v := range l {
		x, err := engine.Step(n, e, v)
		out = append(out, x, err)
	}
	x, k, err := engine.Play(n, e, l)
	y, err2 := engine.Calm(n, e, 3)
	return append(out, x, k, err, y, err2)
}

// P2, P3: what is handed in is only read; the same comes each time, whatever was asked between; a later change of what was handed in is not seen.
func TestOnlyRead(t *testing.T) {
	d := draw(45)
	for range 60 {
		n := someNet(&d, false)
		e := roomyEngine(someEngine(&d, n))
		var l []api.Event
		for range 12 {
			v := someEvent(&d, n, len(e.Bag))
			v.Routes = roomy(v.Routes)
			l = append(l, v)
		}
		before := whole(n, e, l)
		first := answers(n, e, l)
		for _, w := range wrongs() {
			engine.Step(w.n, w.e, l[0])
		}
		engine.Calm(star(), known(), 2)
		again := answers(n, e, l)
		if !reflect.DeepEqual(whole(n, e, l), before) {
			t.Fatalf("%v, %v, %v was changed", n, e, l)
		}
		for _, r := range e.Routers {
			clear(r.Routes)
			for _, told := range r.Told {
				clear(told)
			}
		}
		clear(e.Bag)
		for _, v := range l {
			clear(v.Routes)
		}
		if !reflect.DeepEqual(first, again) {
			t.Fatalf("%v, then %v", first, again)
		}
	}
}

// filled: each number of an engine's lists, and of the room behind them, becomes that of its list.
func filled(e api.Engine) [][]int {
	var lists [][]int
	for _, r := range e.Routers {
		lists = append(append(lists, r.Routes), r.Told...)
	}
	for i, l := range lists {
		for k := range l[:cap(l)] {
			l[:cap(l)][k] = 1000 + i
		}
	}
	return lists
}

// P2: each list that comes is memory of its own, the room behind it too, though what was handed in shares its lists.
func TestOwnMemory(t *testing.T) {
	n, shared, routes := star(), []int{1, 2, 3, 4}, []int{4, 3, 2, 1}
	e := begun(n)
	told := slices.Repeat([][]int{shared}, 4)
	for i := range e.Routers {
		e.Routers[i] = api.Router{Routes: shared, Told: told}
	}
	e.Bag = append(numbered(2), written(1, 0, 1, 0, 1, 1), written(0, 1, 0, 1, 1, 1))
	events := []api.Event{
		{Kind: api.EventTick}, {Kind: api.EventDeliver, At: 2}, {Kind: api.EventDeliver}, {Kind: api.EventTwice}, {Kind: api.EventLose},
		{Kind: api.EventSpoil, C: 1}, {Kind: api.EventExpire, B: 1}, {Kind: api.EventRestart, Routes: routes},
	}
	before := whole(n, e, events)
	var come []api.Engine
	for _, v := range events {
		x, err := engine.Step(n, e, v)
		if err != api.OK {
			t.Fatalf("%v: %d", v, err)
		}
		come = append(come, x)
	}
	x, _, _ := engine.Play(n, e, events)
	y, _ := engine.Calm(n, e, 1)
	z, _ := engine.Calm(n, e, 0)
	w, _, _ := engine.Play(n, e, nil)
	for i, x := range append(come, x, y, z, w, begun(n)) {
		for k, l := range filled(x) {
			if len(l) > 0 && !slices.Equal(l, slices.Repeat([]int{1000 + k}, 4)) {
				t.Errorf("answer %d: list %d is %v: lists share memory", i, k, l)
			}
		}
		for k, r := range x.Routers {
			for j := range r.Told[:cap(r.Told)] {
				r.Told[:cap(r.Told)][j] = []int{k}
			}
		}
		for k, r := range x.Routers {
			if !reflect.DeepEqual(r.Told, slices.Repeat([][]int{{k}}, 4)) {
				t.Errorf("answer %d: router %d was told %v: lists share memory", i, k, r.Told)
			}
		}
		clear(x.Routers[:cap(x.Routers)])
		clear(x.Bag[:cap(x.Bag)])
		if !reflect.DeepEqual(whole(n, e, events), before) {
			t.Fatalf("answer %d shares memory with what was handed in", i)
		}
	}
}

// spoilt: something of an engine, or of its net, becomes anything.
func spoilt(d *draw, n *api.Net, e *api.Engine) {
	numbers := []int{math.MinInt, -1, 0, 1, 2, 5, 6, 7, 99, math.MaxInt}
	number := numbers[d.n(len(numbers))]
	r := &e.Routers[d.n(len(e.Routers))]
	switch d.n(12) {
	case 0:
		n.Nodes = number
	case 1:
		n.Links = append(n.Links, api.Link{From: number, To: d.n(n.Nodes)})
	case 2:
		n.Algebra.Edges[0] = n.Algebra.Edges[0][1:]
	case 3:
		r.Routes[0] = number
	case 4:
		r.Told[0] = []int{number}
	case 5:
		r.Told = append(r.Told, r.Routes)
	case 6:
		r.Routes = nil
	case 7:
		e.Routers = e.Routers[1:]
	case 8:
		e.Bag = append(e.Bag, api.Mail{From: number})
	case 9:
		e.Bag = append(e.Bag, api.Mail{To: number})
	}
}

// P1: whatever is handed in, each call ends, and with an error nothing else comes.
func TestWhatever(t *testing.T) {
	d := draw(46)
	right := 0
	for range 10000 {
		n := someNet(&d, false)
		e := someEngine(&d, n)
		v := someEvent(&d, n, len(e.Bag))
		spoilt(&d, &n, &e)
		want := engine.Check(n, e)
		if x, err := engine.Calm(n, e, 1); err != want || err != api.OK && !reflect.DeepEqual(x, api.Engine{}) {
			t.Fatalf("Calm of %v, %v: %v %d, and must be %d", n, e, x, err, want)
		}
		if x, k, err := engine.Play(n, e, []api.Event{v, v, v}); err != want || err != api.OK && (k != 0 || !reflect.DeepEqual(x, api.Engine{})) {
			t.Fatalf("Play of %v, %v, %v: %v %d %d, and must be %d", n, e, v, x, k, err, want)
		}
		if want == api.OK {
			right++
			want = refusal(n, e, v)
		}
		x, err := engine.Step(n, e, v)
		if err != want || err != api.OK && !reflect.DeepEqual(x, api.Engine{}) {
			t.Fatalf("Step of %v, %v, %v: %v %d, and must be %d", n, e, v, x, err, want)
		}
		// What comes is an engine, too.
		if err == api.OK && engine.Check(n, x) != api.OK {
			t.Fatalf("Step of %v, %v, %v: %v is no engine", n, e, v, x)
		}
	}
	if right < 2000 {
		t.Errorf("only %d were right", right)
	}
}
