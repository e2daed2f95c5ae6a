package optics

import "speculum/api"

// checkElement tells whether an element is valid.
func checkElement(x api.Element) api.Errno {
	valid := isSized(x.Size, api.MaxRadius)
	switch x.Kind {
	case api.ElementSpace:
		valid = valid && x.Size >= 0
	case api.ElementMirror, api.ElementLens:
		valid = valid && x.Size != 0
	default:
		return api.ErrKind
	}
	if !valid {
		return api.ErrRange
	}
	return api.OK
}

// CheckElements tells whether a list of elements is valid.
func CheckElements(l []api.Element) api.Errno {
	if len(l) > api.MaxElements {
		return api.ErrLarge
	}
	for _, x := range l {
		if e := checkElement(x); e != api.OK {
			return e
		}
	}
	return api.OK
}

// MatrixOf is the matrix of elements.
func MatrixOf(l []api.Element) (api.Matrix, api.Errno) {
	if e := CheckElements(l); e != api.OK {
		return api.Matrix{}, e
	}
	var w way
	m := api.Matrix{A: whole(1), B: whole(0), C: whole(0), D: whole(1)}
	for _, x := range l {
		switch x.Kind {
		case api.ElementSpace:
			m = w.spaced(m, whole(x.Size))
		case api.ElementMirror:
			m = w.bent(m, w.over(whole(2), whole(x.Size)))
		case api.ElementLens:
			m = w.bent(m, w.over(whole(1), whole(x.Size)))
		}
	}
	return beside(m, w.failed)
}

// spaced is a system with a space behind it.
func (w *way) spaced(m api.Matrix, d api.Frac) api.Matrix {
	m.A = w.plus(m.A, w.times(d, m.C))
	m.B = w.plus(m.B, w.times(d, m.D))
	return m
}

// bent is a system with a mirror or a lens of a power behind it.
func (w *way) bent(m api.Matrix, power api.Frac) api.Matrix {
	m.C = w.minus(m.C, w.times(power, m.A))
	m.D = w.minus(m.D, w.times(power, m.B))
	return m
}

// checkMatrix tells whether a matrix is valid.
func checkMatrix(m api.Matrix) api.Errno {
	return checkFracs(m.A, m.B, m.C, m.D)
}

// Join is the matrix of m followed by n.
func Join(m, n api.Matrix) (api.Matrix, api.Errno) {
	if e := firstError(checkMatrix(m), checkMatrix(n)); e != api.OK {
		return api.Matrix{}, e
	}
	var w way
	joined := api.Matrix{
		A: w.products(n.A, m.A, n.B, m.C),
		B: w.products(n.A, m.B, n.B, m.D),
		C: w.products(n.C, m.A, n.D, m.C),
		D: w.products(n.C, m.B, n.D, m.D),
	}
	return beside(joined, w.failed)
}

// Determinant is A D - B C.
func Determinant(m api.Matrix) (api.Frac, api.Errno) {
	if e := checkMatrix(m); e != api.OK {
		return api.Frac{}, e
	}
	var w way
	determinant := w.minus(w.times(m.A, m.D), w.times(m.B, m.C))
	return beside(determinant, w.failed)
}

// Focal is the focal length of a system.
func Focal(m api.Matrix) (api.Frac, api.Errno) {
	return overC(whole(1), m)
}

// BackFocus is the way from the end of a system to its focus.
func BackFocus(m api.Matrix) (api.Frac, api.Errno) {
	return overC(m.A, m)
}

// overC is -f / C.
func overC(f api.Frac, m api.Matrix) (api.Frac, api.Errno) {
	if e := checkMatrix(m); e != api.OK {
		return api.Frac{}, e
	}
	f.Num = -f.Num
	var w way
	quotient := w.over(f, m.C)
	return beside(quotient, w.failed)
}

// TwoMirrors is what two mirrors make, the radii and the way between them being given.
func TwoMirrors(primary, secondary, apart int) (api.Pair, api.Errno) {
	m, e := MatrixOf([]api.Element{
		{Kind: api.ElementMirror, Size: primary},
		{Kind: api.ElementSpace, Size: apart},
		{Kind: api.ElementMirror, Size: secondary},
	})
	if e != api.OK {
		return api.Pair{}, e
	}
	focal, errorOfFocal := Focal(m)
	back, errorOfBack := BackFocus(m)
	if e := firstError(errorOfFocal, errorOfBack); e != api.OK {
		return api.Pair{}, e
	}
	var w way
	pair := api.Pair{
		Focal:    focal,
		Back:     back,
		Magnify:  w.over(focal, w.over(whole(primary), whole(2))),
		Obstruct: w.minus(whole(1), w.over(whole(2*apart), whole(primary))),
	}
	return beside(pair, w.failed)
}
