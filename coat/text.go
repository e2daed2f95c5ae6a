package coat

import (
	"strconv"
	"strings"

	"speculum/api"
)

const maxWritten = 9999999 // numbers of a text: 7 digits

// FormatCoating is the text of an event, whether it is valid or not.
func FormatCoating(x api.CoatEvent) string {
	return strings.Join([]string{x.Mirror, strconv.Itoa(x.Day), strconv.Itoa(x.Kind)}, " ")
}

// ParseCoating is the event with a text. Its name is copied, as a result keeps nothing of the text.
func ParseCoating(s string) (api.CoatEvent, api.Errno) {
	// A word that is not there is empty, and so no number; one that is too many makes the last one none.
	mirror, rest, _ := strings.Cut(s, " ")
	first, second, _ := strings.Cut(rest, " ")
	day, isDay := readNumber(first)
	kind, isKind := readNumber(second)
	if !isDay || !isKind {
		return api.CoatEvent{}, api.ErrSyntax
	}
	x := api.CoatEvent{Mirror: strings.Clone(mirror), Day: day, Kind: kind}
	if e := checkAlone(x); e != api.OK {
		return api.CoatEvent{}, e
	}
	return x, api.OK
}

// checkPrinted is the first error of layers of which no materials are known.
func checkPrinted(l []api.CoatLayer) api.Errno {
	if len(l) > api.MaxCoats {
		return api.ErrLarge
	}
	for _, x := range l {
		switch {
		case !isName(x.Material):
			return api.ErrName
		case !areWithin(1, api.MaxCounts, x.Counts):
			return api.ErrRange
		}
	}
	return api.OK
}

// Print is the text of layers.
func Print(l []api.CoatLayer) (string, api.Errno) {
	if e := checkPrinted(l); e != api.OK {
		return "", e
	}
	var text strings.Builder
	for _, x := range l {
		text.WriteString("layer " + x.Material + " " + strconv.Itoa(x.Counts) + "\n")
	}
	return text.String(), api.OK
}

// Parse is the layers with a text, or the number of the first line that is wrong.
func Parse(s string) ([]api.CoatLayer, int, api.Errno) {
	if len(s) > api.MaxText {
		return nil, 0, api.ErrLarge
	}
	var l []api.CoatLayer
	for line := range strings.Lines(s) {
		x, ok := readLayer(line)
		if !ok {
			return nil, len(l) + 1, api.ErrSyntax
		}
		l = append(l, x)
	}
	if e := checkPrinted(l); e != api.OK {
		return nil, 0, e
	}
	return l, 0, api.OK
}

// readLayer is the layer that a line says. The material is copied, as a result keeps nothing of the text.
func readLayer(line string) (api.CoatLayer, bool) {
	line, isWhole := strings.CutSuffix(line, "\n")
	words := strings.Split(line, " ")
	if !isWhole || len(words) != 3 || words[0] != "layer" {
		return api.CoatLayer{}, false
	}
	counts, isNumber := readNumber(words[2])
	return api.CoatLayer{Material: strings.Clone(words[1]), Counts: counts}, isNumber
}

// readNumber is the number that a word says. A number is written in one way only, so the word must be this.
func readNumber(word string) (int, bool) {
	n, err := strconv.Atoi(word)
	return n, err == nil && areWithin(-maxWritten, maxWritten, n) && word == strconv.Itoa(n)
}
