package point

import (
	"iter"
	"slices"

	"speculum/api"
)

// orders yields all orders of so many targets, lexicographically. An order is overwritten by the next one.
func orders(targets int) iter.Seq[[]int] {
	return func(yield func([]int) bool) {
		order := make([]int, targets)
		for n := range order {
			order[n] = n
		}
		for yield(order) {
			if !goOn(order) {
				return
			}
		}
	}
}

// goOn makes an order the next one, if it is not the last one.
func goOn(order []int) bool {
	at := len(order) - 2
	for at >= 0 && order[at] > order[at+1] {
		at--
	}
	if at < 0 {
		return false
	}
	greater := len(order) - 1
	for order[greater] < order[at] {
		greater--
	}
	order[at], order[greater] = order[greater], order[at]
	slices.Reverse(order[at+1:])
	return true
}

// inOrder is a tour with its stops in an order.
func (t tour) inOrder(order []int) tour {
	other := tour{begin: t.begin}
	for _, n := range order {
		other.stops = append(other.stops, t.stops[n])
	}
	return other
}

// BestOrder is the first order of the targets whose best choice has the least cost, and this cost.
func BestOrder(m api.SkyMount, l []api.SkyTarget, at [2]int) ([]int, int, api.Errno) {
	t, _, e := tourOf(m, l, at)
	if e != api.OK {
		return nil, 0, e
	}
	if len(l) > api.MaxFewTargets {
		return nil, 0, api.ErrLarge
	}
	var best []int
	least := 0
	for order := range orders(len(l)) {
		cost := boundOf(t.inOrder(order).potentials())
		if best == nil || cost < least {
			best, least = slices.Clone(order), cost
		}
	}
	return best, least, api.OK
}
