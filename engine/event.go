package engine

import (
	"slices"

	"signpost/api"
	"signpost/state"
	"signpost/wire"
)

// happen: an event, to an engine that was checked and may be changed. With an error it is not: each event looks for what is wrong ahead of all that it does.
func happen(n api.Net, e *api.Engine, v api.Event) api.Errno {
	switch v.Kind {
	case api.EventTick, api.EventExpire, api.EventRestart:
		return atNode(n, e, v)
	case api.EventDeliver, api.EventTwice, api.EventLose, api.EventSpoil:
		return atMail(n, e, v)
	}
	return api.ErrKind
}

// atNode: an event whose At is a node.
func atNode(n api.Net, e *api.Engine, v api.Event) api.Errno {
	if !state.Below(v.At, n.Nodes) {
		return api.ErrNone
	}
	switch v.Kind {
	case api.EventTick:
		return tick(n, e, v.At)
	case api.EventExpire:
		return expire(n, e, v.At, v.B)
	default:
		return restart(n, e, v.At, v.Routes)
	}
}

// atMail: an event whose At is mail.
func atMail(n api.Net, e *api.Engine, v api.Event) api.Errno {
	if !state.Below(v.At, len(e.Bag)) {
		return api.ErrNone
	}
	switch v.Kind {
	case api.EventDeliver:
		deliver(n, e, v.At)
	case api.EventTwice:
		return twice(e, v.At)
	case api.EventLose:
		lose(e, v.At)
	default:
		return spoil(e, v.At, v.B, v.C)
	}
	return api.OK
}

// tick: a node looks, and tells those that hear it.
func tick(n api.Net, e *api.Engine, at int) api.Errno {
	to := hearers(n, at)
	if len(e.Bag)+len(to) > api.MaxBag {
		return api.ErrMany
	}
	look(n, e, at)
	for _, k := range to {
		// A net has so few nodes and routes that each of its packets can be written.
		s, _ := wire.Write(api.Packet{From: at, To: k, Routes: e.Routers[at].Routes})
		e.Bag = append(e.Bag, api.Mail{From: at, To: k, Bytes: s})
	}
	return api.OK
}

// deliver mail. Whatever it is, it is on its way no more; a router sees it only if it is what one that it hears may have told.
func deliver(n api.Net, e *api.Engine, at int) {
	m := e.Bag[at]
	lose(e, at)
	p, err := wire.Read(m.Bytes)
	if err != api.OK || p.From != m.From || p.To != m.To {
		return
	}
	if len(p.Routes) != n.Nodes || !state.AllBelow(p.Routes, n.Algebra.Size) || !hears(n, m.To, m.From) {
		return
	}
	e.Routers[m.To].Told[m.From] = p.Routes
	look(n, e, m.To)
}

// deliverAll that is on its way, the first one first.
func deliverAll(n api.Net, e *api.Engine) {
	for len(e.Bag) > 0 {
		deliver(n, e, 0)
	}
}

// twice: mail is on its way once more.
func twice(e *api.Engine, at int) api.Errno {
	if len(e.Bag) >= api.MaxBag {
		return api.ErrMany
	}
	e.Bag = append(e.Bag, e.Bag[at])
	return api.OK
}

// lose mail.
func lose(e *api.Engine, at int) {
	e.Bag = slices.Delete(e.Bag, at, at+1)
}

// spoil a byte of mail: bits of it are turned.
func spoil(e *api.Engine, at, place, bits int) api.Errno {
	b := []byte(e.Bag[at].Bytes)
	if !state.Below(place, len(b)) || bits < 1 || bits > 255 {
		return api.ErrRange
	}
	b[place] ^= byte(bits)
	e.Bag[at].Bytes = string(b)
	return api.OK
}

// expire: a node forgets what another one told it.
func expire(n api.Net, e *api.Engine, at, of int) api.Errno {
	if !state.Below(of, n.Nodes) {
		return api.ErrNone
	}
	e.Routers[at].Told[of] = nil
	look(n, e, at)
	return api.OK
}

// restart: a node begins anew, with whatever routes.
func restart(n api.Net, e *api.Engine, at int, routes []int) api.Errno {
	if len(routes) != n.Nodes {
		return api.ErrForm
	}
	if !state.AllBelow(routes, n.Algebra.Size) {
		return api.ErrNone
	}
	e.Routers[at] = untold(n, slices.Clone(routes))
	return api.OK
}

// look: a router's routes by what it was told.
func look(n api.Net, e *api.Engine, at int) {
	told := e.Routers[at].Told
	e.Routers[at].Routes = state.Look(n, at, func(to, j int) int {
		if len(told[to]) == 0 {
			return n.Algebra.Size - 1
		}
		return told[to][j]
	})
}

// hearers of a node: those that have a link to it, rising.
func hearers(n api.Net, at int) []int {
	var out []int
	for k := range n.Nodes {
		if hears(n, k, at) {
			out = append(out, k)
		}
	}
	return out
}

// hears: has a node a link to another one?
func hears(n api.Net, from, to int) bool {
	return slices.ContainsFunc(n.Links, func(l api.Link) bool { return l.From == from && l.To == to })
}
