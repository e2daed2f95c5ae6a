package shop

import "speculum/api"

// payment is what is paid for a mirror.
func (b *book) payment(mirror string) (int, api.Errno) {
	o, isOrdered := oneOf(b.Orders, mirror)
	if !isOrdered {
		return 0, api.ErrMissing
	}
	d, isDelivered := oneOf(b.Deliveries, mirror)
	if !isDelivered {
		return 0, api.ErrEarly
	}
	late := max(0, d.Day-o.Due)
	return max(0, o.Cents-late*o.Penalty), api.OK
}

// earned is the sum of all payments.
func (b *book) earned() int {
	sum := 0
	for _, d := range b.Deliveries {
		paid, _ := b.payment(d.Mirror) // a delivered mirror has an order
		sum += paid
	}
	return sum
}

// Payment is what is paid for a delivered mirror.
func Payment(x api.Shop, facts []string, mirror string) (int, api.Errno) {
	b, _, e := bookOf(x, facts)
	if e != api.OK {
		return 0, e
	}
	return b.payment(mirror)
}

// Earned is what is paid for all delivered mirrors.
func Earned(x api.Shop, facts []string) (int, api.Errno) {
	b, _, e := bookOf(x, facts)
	if e != api.OK {
		return 0, e
	}
	return b.earned(), api.OK
}
