package grind

import (
	"strconv"
	"strings"

	"speculum/api"
)

const maxWritten = 9999999 // numbers of a text: 7 digits

// FormatSession is the text of a session, whether it is valid or not.
func FormatSession(x api.GrindSession) string {
	return x.Mirror + " " + x.Stroke + " " + strconv.Itoa(x.Minutes)
}

// ParseSession is the session with a text. Its words are copied, as a result keeps nothing of the text.
func ParseSession(s string) (api.GrindSession, api.Errno) {
	mirror, rest, _ := strings.Cut(s, " ")
	stroke, number, ok := strings.Cut(rest, " ")
	minutes, isNumber := readNumber(number)
	if !ok || !isNumber {
		return api.GrindSession{}, api.ErrSyntax
	}
	return api.GrindSession{Mirror: strings.Clone(mirror), Stroke: strings.Clone(stroke), Minutes: minutes}, api.OK
}

// Print is the text of strokes.
func Print(l []api.Stroke) (string, api.Errno) {
	if _, e := CheckStrokes(l); e != api.OK {
		return "", e
	}
	var text strings.Builder
	for _, s := range l {
		text.WriteString("stroke " + s.Name)
		for _, wear := range s.Wear {
			text.WriteString(" " + strconv.Itoa(wear))
		}
		text.WriteString("\n")
	}
	return text.String(), api.OK
}

// Parse is the strokes with a text, or the number of the first line that is wrong.
func Parse(s string) ([]api.Stroke, int, api.Errno) {
	if len(s) > api.MaxText {
		return nil, 0, api.ErrLarge
	}
	var l []api.Stroke
	for line := range strings.Lines(s) {
		stroke, ok := readStroke(line)
		if !ok {
			return nil, len(l) + 1, api.ErrSyntax
		}
		l = append(l, stroke)
	}
	if _, e := CheckStrokes(l); e != api.OK {
		return nil, 0, e
	}
	return l, 0, api.OK
}

// readStroke is the stroke that a line says. That it has zones is not asked here: this is an error of the stroke.
func readStroke(line string) (api.Stroke, bool) {
	line, isWhole := strings.CutSuffix(line, "\n")
	words := strings.Split(line, " ")
	if !isWhole || words[0] != "stroke" || len(words) < 2 {
		return api.Stroke{}, false
	}
	s := api.Stroke{Name: strings.Clone(words[1])}
	for _, word := range words[2:] {
		wear, ok := readNumber(word)
		if !ok {
			return api.Stroke{}, false
		}
		s.Wear = append(s.Wear, wear)
	}
	return s, true
}

// readNumber is the number that a word says. A number is written in one way only, so the word must be this.
func readNumber(word string) (int, bool) {
	n, err := strconv.Atoi(word)
	return n, err == nil && isWithin(n, -maxWritten, maxWritten) && word == strconv.Itoa(n)
}
