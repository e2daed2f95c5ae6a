package point

import (
	"strconv"
	"strings"

	"speculum/api"
)

const maxWritten = 9999999999 // numbers of a text: 10 digits

// FormatTarget is the text of a target, whether it is valid or not.
func FormatTarget(t api.SkyTarget) string {
	text := t.Name
	for _, n := range [5]int{t.Azimuth, t.Height, t.From, t.To, t.Dwell} {
		text += " " + strconv.Itoa(n)
	}
	return text
}

// ParseTarget is the target with a text. The name is copied, as a result keeps nothing of the text.
func ParseTarget(s string) (api.SkyTarget, api.Errno) {
	var n [5]int
	name, words, _ := strings.Cut(s, " ")
	// Where there are too many words, the last one here is all that is left, and so no number.
	rest := strings.SplitN(words, " ", len(n))
	if strings.Contains(name, "\n") || len(rest) != len(n) {
		return api.SkyTarget{}, api.ErrSyntax
	}
	for i, word := range rest {
		number, ok := readNumber(word)
		if !ok {
			return api.SkyTarget{}, api.ErrSyntax
		}
		n[i] = number
	}
	return api.SkyTarget{Name: strings.Clone(name), Azimuth: n[0], Height: n[1], From: n[2], To: n[3], Dwell: n[4]}, api.OK
}

// readNumber is the number that a word says. A number is written in one way only, so the word must be this.
func readNumber(word string) (int, bool) {
	n, err := strconv.Atoi(word)
	return n, err == nil && areSmall(maxWritten, n) && word == strconv.Itoa(n)
}

// checkPrinted is the first error of targets of which no mounting is known.
func checkPrinted(l []api.SkyTarget) api.Errno {
	if len(l) > api.MaxSkyTargets {
		return api.ErrLarge
	}
	for n, t := range l {
		if e := checkBehind(l[:n], t); e != api.OK {
			return e
		}
	}
	return api.OK
}

// Print is the text of targets.
func Print(l []api.SkyTarget) (string, api.Errno) {
	if e := checkPrinted(l); e != api.OK {
		return "", e
	}
	var text strings.Builder
	for _, t := range l {
		text.WriteString(FormatTarget(t) + "\n")
	}
	return text.String(), api.OK
}

// Parse is the targets with a text, or the number of the first line that is wrong.
func Parse(s string) ([]api.SkyTarget, int, api.Errno) {
	if len(s) > api.MaxText {
		return nil, 0, api.ErrLarge
	}
	var l []api.SkyTarget
	for line := range strings.Lines(s) {
		line, isWhole := strings.CutSuffix(line, "\n")
		t, e := ParseTarget(line)
		if !isWhole || e != api.OK {
			return nil, len(l) + 1, api.ErrSyntax
		}
		l = append(l, t)
	}
	if e := checkPrinted(l); e != api.OK {
		return nil, 0, e
	}
	return l, 0, api.OK
}
