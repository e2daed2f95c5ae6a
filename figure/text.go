package figure

import (
	"strconv"
	"strings"

	"speculum/api"
)

const maxWritten = 9999999 // numbers of a text: 7 digits

// The words with which the first line of a text begins, and all others.
const (
	firstWord = "tolerance"
	otherWord = "zone"
)

// Print is the text of an enclosure and a tolerance.
func Print(l []api.Range, t api.FigureTolerance) (string, api.Errno) {
	if e := checkAcceptance(l, t); e != api.OK {
		return "", e
	}
	var text strings.Builder
	text.WriteString(lineOf(firstWord, t.Peak, t.Slope))
	for _, r := range l {
		text.WriteString(lineOf(otherWord, r.Lo, r.Hi))
	}
	return text.String(), api.OK
}

func lineOf(word string, first, second int) string {
	return word + " " + strconv.Itoa(first) + " " + strconv.Itoa(second) + "\n"
}

// Parse is the enclosure and the tolerance with a text, or the number of the first line that is wrong.
func Parse(s string) ([]api.Range, api.FigureTolerance, int, api.Errno) {
	if len(s) > api.MaxText {
		return nil, api.FigureTolerance{}, 0, api.ErrLarge
	}
	l, t, wrong := readLines(s)
	if wrong > 0 {
		return nil, api.FigureTolerance{}, wrong, api.ErrSyntax
	}
	if e := checkAcceptance(l, t); e != api.OK {
		return nil, api.FigureTolerance{}, 0, e
	}
	return l, t, 0, api.OK
}

// readLines is what the lines of a text say, and the number of the first one that is wrong, or 0.
func readLines(s string) ([]api.Range, api.FigureTolerance, int) {
	var l []api.Range
	var t api.FigureTolerance
	number := 0
	for line := range strings.Lines(s) {
		number++
		word := otherWord
		if number == 1 {
			word = firstWord
		}
		first, second, ok := readLine(line, word)
		if !ok {
			return nil, api.FigureTolerance{}, number
		}
		if number == 1 {
			t = api.FigureTolerance{Peak: first, Slope: second}
		} else {
			l = append(l, api.Range{Lo: first, Hi: second})
		}
	}
	if number == 0 {
		return nil, api.FigureTolerance{}, 1
	}
	return l, t, 0
}

// readLine is the two numbers that a line says behind a word.
func readLine(line, word string) (int, int, bool) {
	line, isWhole := strings.CutSuffix(line, "\n")
	words := strings.Split(line, " ")
	if !isWhole || len(words) != 3 || words[0] != word {
		return 0, 0, false
	}
	first, isFirst := readNumber(words[1])
	second, isSecond := readNumber(words[2])
	return first, second, isFirst && isSecond
}

// readNumber is the number that a word says. A number is written in one way only, so the word must be this.
func readNumber(word string) (int, bool) {
	n, err := strconv.Atoi(word)
	return n, err == nil && isWithin(n, -maxWritten, maxWritten) && word == strconv.Itoa(n)
}
