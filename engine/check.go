package engine

import (
	"slices"

	"signpost/api"
	"signpost/state"
)

// checkRouters of a net that was checked. The form of all comes ahead of the routes of any.
func checkRouters(n api.Net, l []api.Router) api.Errno {
	misshaped := func(r api.Router) bool { return !shaped(n, r) }
	if len(l) != n.Nodes || slices.ContainsFunc(l, misshaped) {
		return api.ErrForm
	}
	stray := func(routes []int) bool { return !state.AllBelow(routes, n.Algebra.Size) }
	if slices.ContainsFunc(l, func(r api.Router) bool { return stray(r.Routes) || slices.ContainsFunc(r.Told, stray) }) {
		return api.ErrNone
	}
	return api.OK
}

// shaped: has a router what is told of each node? Of a node that told nothing there is nothing.
func shaped(n api.Net, r api.Router) bool {
	if len(r.Routes) != n.Nodes || len(r.Told) != n.Nodes {
		return false
	}
	return !slices.ContainsFunc(r.Told, func(told []int) bool { return len(told) != 0 && len(told) != n.Nodes })
}

// checkBag of a net that was checked.
func checkBag(n api.Net, l []api.Mail) api.Errno {
	if len(l) > api.MaxBag {
		return api.ErrMany
	}
	astray := func(m api.Mail) bool { return !state.Below(m.From, n.Nodes) || !state.Below(m.To, n.Nodes) }
	if slices.ContainsFunc(l, astray) {
		return api.ErrNone
	}
	if slices.ContainsFunc(l, func(m api.Mail) bool { return len(m.Bytes) > api.MaxWire }) {
		return api.ErrMany
	}
	return api.OK
}
