package blank

import (
	"iter"
	"strconv"
	"strings"

	"speculum/api"
)

const maxWritten = 9999999 // numbers of a text: 7 digits

// join is words with single blanks between.
func join(words ...string) string {
	return strings.Join(words, " ")
}

// withNumbers is a word with numbers behind it.
func withNumbers(word string, numbers ...int) string {
	words := []string{word}
	for _, n := range numbers {
		words = append(words, strconv.Itoa(n))
	}
	return join(words...)
}

// either is one of two words.
func either(isFirst bool, first, second string) string {
	if isFirst {
		return first
	}
	return second
}

// Print is the text of a blank.
func Print(g api.Glass) (string, api.Errno) {
	if e := CheckGlass(g); e != api.OK {
		return "", e
	}
	var text strings.Builder
	text.WriteString(withNumbers("glass", g.Density, g.Thick) + "\n")
	for _, p := range g.Parts {
		word := either(p.Cut, "cut", "ring")
		text.WriteString(withNumbers(word, p.Outer, p.Inner, p.From, p.To, p.Count) + "\n")
	}
	for _, c := range g.Caps {
		word := either(c.Cut, "dish", "cap")
		text.WriteString(join(withNumbers(word, c.Radius, c.Height, c.At), either(c.Up, "up", "down")) + "\n")
	}
	return text.String(), api.OK
}

// linesOf yields the lines of a text with their numbers, each one with its line feed. The last one may have none; it is
// empty if the text is.
func linesOf(text string) iter.Seq2[int, string] {
	return func(yield func(int, string) bool) {
		number, begin := 1, 0
		for i := range len(text) {
			if text[i] != '\n' {
				continue
			}
			if !yield(number, text[begin:i+1]) {
				return
			}
			number, begin = number+1, i+1
		}
		if number == 1 || begin < len(text) {
			yield(number, text[begin:])
		}
	}
}

// Parse is the blank with a text, or the number of the first line that is wrong.
func Parse(s string) (api.Glass, int, api.Errno) {
	if len(s) > api.MaxText {
		return api.Glass{}, 0, api.ErrLarge
	}
	var g api.Glass
	for number, line := range linesOf(s) {
		if !readLine(&g, number, line) {
			return api.Glass{}, number, api.ErrSyntax
		}
	}
	if e := CheckGlass(g); e != api.OK {
		return api.Glass{}, 0, e
	}
	return g, 0, api.OK
}

// readLine reads a line into a blank, and tells whether it has a form and stands in order.
func readLine(g *api.Glass, number int, line string) bool {
	line, isWhole := strings.CutSuffix(line, "\n")
	words := strings.Split(line, " ")
	if !isWhole || (words[0] == "glass") != (number == 1) {
		return false
	}
	switch words[0] {
	case "glass":
		n, ok := readNumbers(words[1:], 2)
		if ok {
			g.Density, g.Thick = n[0], n[1]
		}
		return ok
	case "ring", "cut":
		p, ok := readPart(words)
		g.Parts = append(g.Parts, p)
		return ok && len(g.Caps) == 0
	case "cap", "dish":
		c, ok := readCap(words)
		g.Caps = append(g.Caps, c)
		return ok
	}
	return false
}

// readPart is the part that the words of a line say.
func readPart(words []string) (api.GlassPart, bool) {
	n, ok := readNumbers(words[1:], 5)
	if !ok {
		return api.GlassPart{}, false
	}
	return api.GlassPart{Outer: n[0], Inner: n[1], From: n[2], To: n[3], Count: n[4], Cut: words[0] == "cut"}, true
}

// readCap is the cap that the words of a line say.
func readCap(words []string) (api.GlassCap, bool) {
	if len(words) != 5 {
		return api.GlassCap{}, false
	}
	n, ok := readNumbers(words[1:4], 3)
	isUp := words[4] == "up"
	if !ok || !isUp && words[4] != "down" {
		return api.GlassCap{}, false
	}
	return api.GlassCap{Radius: n[0], Height: n[1], At: n[2], Up: isUp, Cut: words[0] == "dish"}, true
}

// readNumbers is the numbers that words say, if there are just so many.
func readNumbers(words []string, count int) ([]int, bool) {
	if len(words) != count {
		return nil, false
	}
	numbers := make([]int, count)
	for i, word := range words {
		n, ok := readNumber(word)
		if !ok {
			return nil, false
		}
		numbers[i] = n
	}
	return numbers, true
}

// readNumber is the number that a word says. A number is written in one way only, so the word must be this.
func readNumber(word string) (int, bool) {
	n, err := strconv.Atoi(word)
	return n, err == nil && isWithin(n, -maxWritten, maxWritten) && word == strconv.Itoa(n)
}
