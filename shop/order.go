package shop

import "speculum/api"

const maxAmount = 9999999999999 // numbers of an order's text: 13 digits

// FormatOrder is the text of an order, whether it is valid or not.
func FormatOrder(o api.MirrorOrder) string {
	return join(o.Mirror, o.Customer, o.Due, o.Cents, o.Penalty)
}

// ParseOrder is the order with a text.
func ParseOrder(s string) (api.MirrorOrder, api.Errno) {
	words, ok := split(s, 5)
	if !ok {
		return api.MirrorOrder{}, api.ErrSyntax
	}
	var numbers [3]int
	for i, word := range words[2:] {
		if numbers[i], ok = readNumber(word, maxAmount); !ok {
			return api.MirrorOrder{}, api.ErrSyntax
		}
	}
	o := api.MirrorOrder{Mirror: words[0], Customer: words[1], Due: numbers[0], Cents: numbers[1], Penalty: numbers[2]}
	if e := checkOrder(o); e != api.OK {
		return api.MirrorOrder{}, e
	}
	return o, api.OK
}

// checkOrder is the first error of an order alone.
func checkOrder(o api.MirrorOrder) api.Errno {
	switch {
	case !areNames(o.Mirror, o.Customer):
		return api.ErrName
	case !isWithin(o.Due, 0, api.MaxDay) || !isWithin(o.Cents, 0, api.MaxCents) || !isWithin(o.Penalty, 0, api.MaxCents):
		return api.ErrRange
	}
	return api.OK
}
