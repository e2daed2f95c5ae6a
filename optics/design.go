package optics

import (
	"strconv"
	"strings"

	"speculum/api"
)

const maxDiameter = 2 * api.MaxAperture

func isLetter(b byte) bool {
	return 'a' <= b && b <= 'z' || 'A' <= b && b <= 'Z'
}

func isDigit(b byte) bool {
	return '0' <= b && b <= '9'
}

func isName(text string) bool {
	if !isWithin(len(text), 1, api.MaxName) || !isLetter(text[0]) {
		return false
	}
	for i := range len(text) {
		if b := text[i]; !isLetter(b) && !isDigit(b) && b != '-' {
			return false
		}
	}
	return true
}

// checkSurface is the error of a surface, but for its name.
func checkSurface(s api.Surface) api.Errno {
	if e := CheckConic(s.Conic); e != api.OK {
		return e
	}
	if !isWithin(s.Diameter, 1, maxDiameter) || !isWithin(s.Apart, 0, api.MaxRadius) {
		return api.ErrRange
	}
	if isBeyond(s.Conic, up(s.Diameter, 2)) {
		return api.ErrNone
	}
	return api.OK
}

// isNamed tells whether a list has a surface of a name.
func isNamed(surfaces []api.Surface, name string) bool {
	for _, s := range surfaces {
		if s.Name == name {
			return true
		}
	}
	return false
}

// CheckDesign tells whether a design is valid, with the number of the surface that is not.
func CheckDesign(d api.Design) (int, api.Errno) {
	if !isName(d.Name) {
		return 0, api.ErrName
	}
	if len(d.Surfaces) > api.MaxSurfaces {
		return 0, api.ErrLarge
	}
	for i, s := range d.Surfaces {
		if !isName(s.Name) {
			return i, api.ErrName
		}
		if isNamed(d.Surfaces[:i], s.Name) {
			return i, api.ErrExists
		}
		if e := checkSurface(s); e != api.OK {
			return i, e
		}
	}
	return 0, api.OK
}

// ElementsOf is the mirrors of a design with the spaces between them.
func ElementsOf(d api.Design) ([]api.Element, api.Errno) {
	if _, e := CheckDesign(d); e != api.OK {
		return nil, e
	}
	var l []api.Element
	for i, s := range d.Surfaces {
		if i > 0 {
			l = append(l, api.Element{Kind: api.ElementSpace, Size: d.Surfaces[i-1].Apart})
		}
		l = append(l, api.Element{Kind: api.ElementMirror, Size: s.Conic.Radius})
	}
	return l, api.OK
}

// Print is the text of a design, a line for its name and one for each surface.
func Print(d api.Design) (string, api.Errno) {
	if _, e := CheckDesign(d); e != api.OK {
		return "", e
	}
	var text strings.Builder
	text.WriteString("design " + d.Name + "\n")
	for _, s := range d.Surfaces {
		line := []string{
			"mirror", s.Name,
			"radius", strconv.Itoa(s.Conic.Radius),
			"conic", printConstant(s.Conic.K),
			"diameter", strconv.Itoa(s.Diameter),
			"apart", strconv.Itoa(s.Apart),
		}
		text.WriteString(strings.Join(line, " ") + "\n")
	}
	return text.String(), api.OK
}

// printConstant is a conic constant as a design says it.
func printConstant(k api.Frac) string {
	if k.Den == 1 {
		return strconv.Itoa(k.Num)
	}
	return strconv.Itoa(k.Num) + "/" + strconv.Itoa(k.Den)
}
