package optics

import (
	"speculum/api"
	"speculum/number"
)

// way computes numbers on the way, one after the other. It keeps the first error; behind this it computes nothing.
type way struct{ failed api.Errno }

func (w *way) step(operation func(a, b api.Frac) (api.Frac, api.Errno), a, b api.Frac) api.Frac {
	if w.failed != api.OK {
		return api.Frac{}
	}
	result, e := operation(a, b)
	w.failed = e
	return result
}

func (w *way) plus(a, b api.Frac) api.Frac  { return w.step(number.Add, a, b) }
func (w *way) minus(a, b api.Frac) api.Frac { return w.step(number.Sub, a, b) }
func (w *way) times(a, b api.Frac) api.Frac { return w.step(number.Mul, a, b) }
func (w *way) over(a, b api.Frac) api.Frac  { return w.step(number.Quo, a, b) }

// products is a b + c d.
func (w *way) products(a, b, c, d api.Frac) api.Frac {
	return w.plus(w.times(a, b), w.times(c, d))
}

func whole(n int) api.Frac {
	return api.Frac{Num: n, Den: 1}
}
