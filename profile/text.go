package profile

import (
	"strconv"
	"strings"

	"speculum/api"
)

const maxWritten = 9999999999 // numbers of a text: 10 digits

// FormatReading is the text of a reading, whether it is valid or not.
func FormatReading(r api.MirrorReading) string {
	x := r.Reading
	text := r.Mirror
	for _, n := range [4]int{x.From, x.To, x.Diff.Lo, x.Diff.Hi} {
		text += " " + strconv.Itoa(n)
	}
	return text
}

// ParseReading is the reading with a text. The name is copied, as a result keeps nothing of the text.
func ParseReading(s string) (api.MirrorReading, api.Errno) {
	var numbers [4]int
	name, words, _ := strings.Cut(s, " ")
	// a word more than there are numbers is enough to see that there are too many
	rest := strings.SplitN(words, " ", len(numbers)+1)
	if strings.Contains(name, "\n") || len(rest) != len(numbers) {
		return api.MirrorReading{}, api.ErrSyntax
	}
	for i, word := range rest {
		n, ok := readNumber(word)
		if !ok {
			return api.MirrorReading{}, api.ErrSyntax
		}
		numbers[i] = n
	}
	diff := api.Range{Lo: numbers[2], Hi: numbers[3]}
	reading := api.HeightReading{From: numbers[0], To: numbers[1], Diff: diff}
	return api.MirrorReading{Mirror: strings.Clone(name), Reading: reading}, api.OK
}

// readNumber is the number that a word says. A number is written in one way only, so the word must be this.
func readNumber(word string) (int, bool) {
	n, err := strconv.Atoi(word)
	return n, err == nil && isWithin(n, -maxWritten, maxWritten) && word == strconv.Itoa(n)
}
