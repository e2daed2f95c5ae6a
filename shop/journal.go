package shop

import (
	"strings"

	"speculum/api"
)

// SumOf is the sum of a text behind a number.
func SumOf(before int, text string) int {
	if !isWithin(before, 0, api.SumMod-1) {
		return 0
	}
	sum := before
	for i := range len(text) {
		sum = (257*sum + int(text[i]) + 1) % api.SumMod
	}
	return sum
}

// lineOf is the line of a fact in a journal.
func lineOf(number, check int, text string) string {
	return join(number, check, text) + "\n"
}

// Journal is the journal of facts.
func Journal(facts []string) (string, api.Errno) {
	if len(facts) > api.MaxFacts {
		return "", api.ErrLarge
	}
	var journal strings.Builder
	check := 0
	for n, text := range facts {
		if e := checkLine(text); e != api.OK {
			return "", e
		}
		check = SumOf(check, text)
		journal.WriteString(lineOf(n+1, check, text))
	}
	return journal.String(), api.OK
}

// readLine is the fact in a line of a journal, and its check, if the line has this number and stands behind this check.
func readLine(line string, number, before int) (string, int, bool) {
	words := strings.SplitN(line, " ", 3)
	text, isWhole := strings.CutSuffix(words[len(words)-1], "\n")
	if !isWhole || checkLine(text) != api.OK {
		return "", 0, false
	}
	check := SumOf(before, text)
	return text, check, line == lineOf(number, check, text)
}

// Recover is the facts of the longest beginning of a text that is a journal, and the number of its bytes. The facts are
// copied, as a result keeps nothing of the text.
func Recover(text string) ([]string, int) {
	var facts []string
	check, bytes := 0, 0
	for line := range strings.Lines(text) {
		found, sum, ok := readLine(line, len(facts)+1, check)
		if !ok || len(facts) == api.MaxFacts {
			break
		}
		facts = append(facts, strings.Clone(found))
		check, bytes = sum, bytes+len(line)
	}
	return facts, bytes
}
