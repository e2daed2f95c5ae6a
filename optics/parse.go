package optics

import (
	"strings"

	"speculum/api"
)

const maxDigits = 8 // digits of the numbers of a design

// word is a word of a text, and the place of its first byte.
type word struct {
	text string
	at   api.Mark
}

// words is all words of a line; it has at least one.
type words []word

// end is the place behind the last byte of the last word.
func (l words) end() api.Mark {
	last := l[len(l)-1]
	last.at.Column += len(last.text)
	return last.at
}

// fault is an error at a place of a text; with the code OK it is none.
type fault struct {
	at   api.Mark
	code api.Errno
}

// linesOf is the lines of a text that have words.
func linesOf(t string) []words {
	var lines []words
	for i, text := range strings.Split(t, "\n") {
		text, _, _ = strings.Cut(text, "#")
		if l := wordsOf(text, i+1); len(l) > 0 {
			lines = append(lines, l)
		}
	}
	return lines
}

// wordsOf is the words of the line of a number, without its comment.
func wordsOf(text string, number int) words {
	var l words
	begin := 0
	for i := range len(text) + 1 {
		if i < len(text) && text[i] != ' ' && text[i] != '\t' {
			continue
		}
		if i > begin {
			l = append(l, word{text: text[begin:i], at: api.Mark{Line: number, Column: begin + 1}})
		}
		begin = i + 1
	}
	return l
}

// Parse is the design that a text says, or the place of its first error.
func Parse(t string) (api.Design, api.Mark, api.Errno) {
	if len(t) > api.MaxText {
		return api.Design{}, api.Mark{}, api.ErrLarge
	}
	lines := linesOf(t)
	if len(lines) == 0 {
		return api.Design{}, api.Mark{Line: 1, Column: 1}, api.ErrMissing
	}
	d, f := readDesign(lines)
	if f.code != api.OK {
		return api.Design{}, f.at, f.code
	}
	return d, api.Mark{}, api.OK
}

func readDesign(lines []words) (api.Design, fault) {
	var d api.Design
	name, f := readHead(lines[0])
	if f.code != api.OK {
		return d, f
	}
	d.Name = name
	for _, l := range lines[1:] {
		s, f := readMirror(l, d.Surfaces)
		if f.code != api.OK {
			return d, f
		}
		d.Surfaces = append(d.Surfaces, s)
	}
	return d, fault{}
}

// readHead is the name in the line of the design.
func readHead(l words) (string, fault) {
	if l[0].text != "design" {
		return "", fault{l[0].at, api.ErrSyntax}
	}
	name, f := readName(l)
	if f.code == api.OK && len(l) > 2 {
		f = fault{l[2].at, api.ErrSyntax}
	}
	return name, f
}

// readName is the second word of a line, if it is a name. It is copied, as a result keeps nothing of the text.
func readName(l words) (string, fault) {
	if len(l) == 1 {
		return "", fault{l.end(), api.ErrMissing}
	}
	if !isName(l[1].text) {
		return "", fault{l[1].at, api.ErrName}
	}
	return strings.Clone(l[1].text), fault{}
}

// readMirror is the surface that a line says; others are before it.
func readMirror(l words, before []api.Surface) (api.Surface, fault) {
	s := api.Surface{Conic: api.Conic{K: whole(0)}}
	if l[0].text != "mirror" {
		return s, fault{l[0].at, api.ErrSyntax}
	}
	if len(before) == api.MaxSurfaces {
		return s, fault{l[0].at, api.ErrLarge}
	}
	name, f := readName(l)
	if f.code != api.OK {
		return s, f
	}
	if isNamed(before, name) {
		return s, fault{l[1].at, api.ErrExists}
	}
	s.Name = name
	if f := readPairs(l, &s); f.code != api.OK {
		return s, f
	}
	return s, fault{l[0].at, checkSurface(s)}
}

// readPairs reads the keys of a mirror's line with their values into its surface.
func readPairs(l words, s *api.Surface) fault {
	had := map[string]bool{}
	for i := 2; i < len(l); i += 2 {
		key := l[i]
		if !isKey(key.text) {
			return fault{key.at, api.ErrSyntax}
		}
		if had[key.text] {
			return fault{key.at, api.ErrExists}
		}
		had[key.text] = true
		if i+1 == len(l) {
			return fault{l.end(), api.ErrMissing}
		}
		if !setValue(s, key.text, l[i+1].text) {
			return fault{l[i+1].at, api.ErrSyntax}
		}
	}
	if !had["radius"] || !had["diameter"] {
		return fault{l.end(), api.ErrMissing}
	}
	return fault{}
}

func isKey(text string) bool {
	switch text {
	case "radius", "conic", "diameter", "apart":
		return true
	}
	return false
}

// setValue sets the value of a key, and tells whether it is one.
func setValue(s *api.Surface, key, text string) bool {
	ok := false
	switch key {
	case "radius":
		s.Conic.Radius, ok = readLength(text)
	case "conic":
		s.Conic.K, ok = readConstant(text)
	case "diameter":
		s.Diameter, ok = readLength(text)
	case "apart":
		s.Apart, ok = readLength(text)
	}
	return ok
}

// readNumber is the number that a text says.
func readNumber(text string) (int, bool) {
	digits, isNegative := strings.CutPrefix(text, "-")
	if !isWithin(len(digits), 1, maxDigits) || digits[0] == '0' && (isNegative || len(digits) > 1) {
		return 0, false
	}
	n := 0
	for i := range len(digits) {
		if !isDigit(digits[i]) {
			return 0, false
		}
		n = 10*n + int(digits[i]-'0')
	}
	if isNegative {
		n = -n
	}
	return n, true
}

// readLength is a number with its unit, in micrometres.
func readLength(text string) (int, bool) {
	micrometres := 1
	if digits, ok := strings.CutSuffix(text, "um"); ok {
		text = digits
	} else if digits, ok := strings.CutSuffix(text, "mm"); ok {
		text, micrometres = digits, 1000
	} else if digits, ok := strings.CutSuffix(text, "m"); ok {
		text, micrometres = digits, 1000000
	}
	n, ok := readNumber(text)
	return n * micrometres, ok
}

// readConstant is a number, or two of them with a "/" between, the second one above 1. They need not be in lowest terms.
func readConstant(text string) (api.Frac, bool) {
	over, under, isQuotient := strings.Cut(text, "/")
	num, ok := readNumber(over)
	if !isQuotient {
		return whole(num), ok
	}
	den, denOK := readNumber(under)
	return api.Frac{Num: num, Den: den}, ok && denOK && den > 1
}
