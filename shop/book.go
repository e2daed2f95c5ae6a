package shop

import "speculum/api"

// book is facts of a shop, with the state that they make.
type book struct {
	api.ShopState
	shop  api.Shop
	facts []string
}

// mirrorOf is the mirror to which an item of a state belongs.
func mirrorOf(item any) string {
	switch x := item.(type) {
	case api.MirrorOrder:
		return x.Mirror
	case api.GlassPromise:
		return x.Mirror
	case api.GrindSession:
		return x.Mirror
	case api.MirrorReading:
		return x.Mirror
	case api.CoatEvent:
		return x.Mirror
	case api.Certificate:
		return x.Mirror
	case api.Delivery:
		return x.Mirror
	}
	return ""
}

// of is the items of a list that belong to a mirror.
func of[T any](l []T, mirror string) []T {
	var found []T
	for _, x := range l {
		if mirrorOf(x) == mirror {
			found = append(found, x)
		}
	}
	return found
}

// oneOf is the item that belongs to a mirror, of a list that has at most one for each, and whether there is one.
func oneOf[T any](l []T, mirror string) (T, bool) {
	found := of(l, mirror)
	if len(found) == 0 {
		var none T
		return none, false
	}
	return found[0], true
}

// bookOf is the book of a shop's facts, or their first error, with the number of the fact that is refused.
func bookOf(x api.Shop, facts []string) (*book, int, api.Errno) {
	if e := CheckShop(x); e != api.OK {
		return nil, 0, e
	}
	if len(facts) > api.MaxFacts {
		return nil, 0, api.ErrLarge
	}
	b := &book{shop: x}
	for n, text := range facts {
		if e := b.accept(text); e != api.OK {
			return nil, n, e
		}
	}
	return b, 0, api.OK
}

// accept adds a fact, or is the error with which it is refused; then nothing changes.
func (b *book) accept(text string) api.Errno {
	if len(b.facts) == api.MaxFacts {
		return api.ErrFull
	}
	x, e := parseFact(text)
	if e != api.OK {
		return e
	}
	if e := x.enter(b); e != api.OK {
		return e
	}
	b.facts = append(b.facts, text)
	return api.OK
}

// checkMirror is the error of a mirror.
func (b *book) checkMirror(mirror string) api.Errno {
	if _, isOrdered := oneOf(b.Orders, mirror); !isOrdered {
		return api.ErrMissing
	}
	if _, isDelivered := oneOf(b.Deliveries, mirror); isDelivered {
		return api.ErrLate
	}
	return api.OK
}

// StateOf is the state that facts make, and how many they are; or the number of the fact that is refused.
func StateOf(x api.Shop, facts []string) (api.ShopState, int, api.Errno) {
	b, n, e := bookOf(x, facts)
	if e != api.OK {
		return api.ShopState{}, n, e
	}
	return b.ShopState, len(facts), api.OK
}

// Accept is the facts with one more behind them.
func Accept(x api.Shop, facts []string, text string) ([]string, api.Errno) {
	b, _, e := bookOf(x, facts)
	if e != api.OK {
		return nil, e
	}
	if e := b.accept(text); e != api.OK {
		return nil, e
	}
	return b.facts, api.OK
}
