package support

import (
	"strconv"
	"strings"

	"speculum/api"
)

const maxWritten = 9999999 // numbers of a text: 7 digits

// Print is the text of rockers.
func Print(l []api.Rocker) (string, api.Errno) {
	if e := CheckTree(l); e != api.OK {
		return "", e
	}
	var text strings.Builder
	for _, r := range l {
		words := []string{"rocker", r.Name, r.Left, r.Right, strconv.Itoa(r.ArmLeft), strconv.Itoa(r.ArmRight)}
		text.WriteString(strings.Join(words, " ") + "\n")
	}
	return text.String(), api.OK
}

// Parse is the rockers with a text, or the number of the first line that is wrong.
func Parse(s string) ([]api.Rocker, int, api.Errno) {
	if len(s) > api.MaxText {
		return nil, 0, api.ErrLarge
	}
	var l []api.Rocker
	for line := range strings.Lines(s) {
		r, ok := readRocker(line)
		if !ok {
			return nil, len(l) + 1, api.ErrSyntax
		}
		l = append(l, r)
	}
	if e := CheckTree(l); e != api.OK {
		return nil, 0, e
	}
	return l, 0, api.OK
}

// readRocker is the rocker that a line says. Its names are copied, as a result keeps nothing of the text.
func readRocker(line string) (api.Rocker, bool) {
	line, isWhole := strings.CutSuffix(line, "\n")
	words := strings.Split(line, " ")
	if !isWhole || len(words) != 6 || words[0] != "rocker" {
		return api.Rocker{}, false
	}
	left, isLeft := readNumber(words[4])
	right, isRight := readNumber(words[5])
	r := api.Rocker{
		Name:     strings.Clone(words[1]),
		Left:     strings.Clone(words[2]),
		Right:    strings.Clone(words[3]),
		ArmLeft:  left,
		ArmRight: right,
	}
	return r, isLeft && isRight
}

// readNumber is the number that a word says. A number is written in one way only, so the word must be this.
func readNumber(word string) (int, bool) {
	n, err := strconv.Atoi(word)
	return n, err == nil && areWithin(-maxWritten, maxWritten, n) && word == strconv.Itoa(n)
}
