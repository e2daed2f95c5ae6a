package blank_test

import (
	"math/rand/v2"
	"regexp"
	"slices"
	"strconv"
	"strings"
	"testing"

	"speculum/api"
	"speculum/blank"
)

// same tells whether two blanks are equal; no list is an empty one.
func same(a, b api.Glass) bool {
	return a.Density == b.Density && a.Thick == b.Thick && slices.Equal(a.Parts, b.Parts) && slices.Equal(a.Caps, b.Caps)
}

func checkParse(t *testing.T, text string, line int, want api.Errno) {
	t.Helper()
	if g, n, e := blank.Parse(text); !same(g, api.Glass{}) || n != line || e != want {
		t.Errorf("%.200q: %v, %d, %d; wanted %d, %d", text, g, n, e, line, want)
	}
}

const richText = "glass 2500 100\nring 1000 10 0 100 0\ncut 20 0 30 40 6\ncap 3000 20 60 up\ncap 900 10 50 down\n"

func TestP3_6Texts(t *testing.T) {
	both := rich()
	both.Parts[0].Cut, both.Parts[1].Cut = true, false
	both.Caps[0].Cut, both.Caps[1].Cut = true, true
	both.Parts = append(both.Parts, api.GlassPart{Outer: 1000, To: 100, Count: 100})
	for text, g := range map[string]api.Glass{
		"glass 575 30\nring 200 0 0 30 0\ndish 1000 5 25 up\n": dish(),
		"glass 575 30\nring 200 0 0 30 0\n":                    disc(),
		richText:                                               rich(),
		"glass 1 9\ncap 1 1 5 down\n":                          {Density: 1, Thick: 9, Caps: []api.GlassCap{{Radius: 1, Height: 1, At: 5}}},
		"glass 2500 100\ncut 1000 10 0 100 0\nring 20 0 30 40 6\nring 1000 0 0 100 100\ndish 3000 20 60 up\ndish 900 10 50 down\n": both,
	} {
		if s, e := blank.Print(g); s != text || e != api.OK {
			t.Errorf("%v: %q, %d", g, s, e)
		}
		if x, n, e := blank.Parse(text); !same(x, g) || n != 0 || e != api.OK {
			t.Errorf("%q: %v, %d, %d", text, x, n, e)
		}
	}
	empty := disc()
	empty.Caps = []api.GlassCap{}
	if s, e := blank.Print(empty); s != "glass 575 30\nring 200 0 0 30 0\n" || e != api.OK {
		t.Error(s, e)
	}
}

func TestP3_6WrongLines(t *testing.T) {
	for _, line := range []string{
		"", " ", "glass", "glass 1 1", "ring", "cut", "cap", "dish", "ring 200 0 0 30", "ring 200 0 0 30 0 0", "ring 200 0 0 30 up",
		"cut 20 0 30 40 6 ", " cut 20 0 30 40 6", "cut  20 0 30 40 6", "cut 20 0  30 40 6", "cut 20 0 30 40", "cut 20 0 30 40 6\r", "cut\t20 0 30 40 6",
		"Ring 200 0 0 30 0", "rings 200 0 0 30 0", "ringup 1 1 1 1 1", "up 1 1 1", "200 0 0 30 0", "ring 200 0 0 30 x", "ring 2e2 0 0 30 0",
		"ring 0200 0 0 30 0", "ring +200 0 0 30 0", "ring -0 0 0 30 0", "ring 00 0 0 30 0", "ring - 0 0 30 0", "ring --2 0 0 30 0", "ring -02 0 0 30 0",
		"ring 2_0 0 0 30 0", "ring 0x1 0 0 30 0", "ring 10000000 0 0 30 0", "ring -10000000 0 0 30 0", "ring 99999999999999999999 0 0 30 0",
		"ring \u0661 0 0 30 0", "ring 1. 0 0 30 0", "ring 200 0 0 30 0#",
	} {
		checkParse(t, richText[:36]+line+"\n", 3, api.ErrSyntax)
		checkParse(t, richText[:36]+line+"\nx\n", 3, api.ErrSyntax)
		checkParse(t, richText[:36]+"cut 1 0 0 1 0\n"+line+"\n", 4, api.ErrSyntax)
	}
	for _, line := range []string{
		"cap 1 1 0", "cap 1 1 0 ", "cap 1 1 up", "cap 1 1 0 0", "cap 1 1 0 Up", "cap 1 1 0 upward", "cap 1 1 0 up up", "cap 1 1 0 up down", "cap 1 1 up 0",
		"cap up 1 1 0", "cap 1 1 0  up", "cap 1 1 0 up ", " cap 1 1 0 up", "cap 1 1 0 do", "dish 1 01 0 down", "dish 1 1 0 \u0000", "dish 1 1", "dish down",
		"ring 1 0 0 1 0", "cut 1 0 0 1 0", "glass 1 1", "",
	} {
		checkParse(t, richText+line+"\n", 6, api.ErrSyntax)
		checkParse(t, richText+line+"\nx", 6, api.ErrSyntax)
	}
	for _, text := range []string{
		"", "\n", "\n\n", " ", "x", "glass", "glass\n", "glass 1\n", "glass 1 1 1\n", "glass 1 1", "glass 1 1 \n", "glass  1 1\n", "Glass 1 1\n", "ring 1 0 0 1 0\n",
		"cap 1 1 0 up\n", "\nglass 1 1\n", "glass 1 01\n", "glass a 1\n", "glass 1 1\r\n", "\x00", "\u00e4\n",
	} {
		checkParse(t, text, 1, api.ErrSyntax)
	}
}

func TestP3_6OrderOfLines(t *testing.T) {
	checkParse(t, "glass 1 1\nring 1 0 0 1 0\nglass 1 1\n", 3, api.ErrSyntax)
	checkParse(t, "glass 1 1\nring 1 0 0 1 0\ncap 1 1 0 up\ncut 1 0 0 1 0\n", 4, api.ErrSyntax)
	checkParse(t, "glass 1 1\ncap 1 1 0 up\nring 1 0 0 1 0\nx\n", 3, api.ErrSyntax)
	checkParse(t, "glass 1 1\nring 1 0 0 1 0\nring 1 0 0 1 0", 3, api.ErrSyntax)
	checkParse(t, "glass 1 1\nring 1 0 0 1 0\n\n", 3, api.ErrSyntax)
	checkParse(t, "glass 1 1\nring 1 0 0 1 0\n ", 3, api.ErrSyntax)
	// errors of the blank are told behind those of all lines, without a line
	checkParse(t, "glass 0 1\nring 1 0 0 1 0\nx\n", 3, api.ErrSyntax)
	checkParse(t, "glass 0 1\nring 1 0 0 1 0\n", 0, api.ErrRange)
	checkParse(t, "glass 1 1\n", 0, api.ErrZero)
	checkParse(t, "glass -1 1\n", 0, api.ErrRange)
	checkParse(t, "glass 9999999 -9999999\n", 0, api.ErrRange)
	checkParse(t, "glass 1 1\nring 1 0 0 0 0\n", 0, api.ErrOrder)
	checkParse(t, "glass 1 1\nring 1 0 0 1 0\ncut 3 1 0 1 1\n", 0, api.ErrForm)
	checkParse(t, "glass 1 1\nring 1 0 0 1 0\ncap 1 2 0 up\n", 0, api.ErrRange)
	checkParse(t, "glass 1 1\n"+strings.Repeat("ring 1 0 0 1 0\n", 41), 0, api.ErrLarge)
	checkParse(t, "glass 1 1\n"+strings.Repeat("ring 1 0 0 1 0\n", 41)+"\n", 43, api.ErrSyntax)
	checkParse(t, "glass 1 1\n"+strings.Repeat("cap 1 1 0 up\n", 5), 0, api.ErrLarge)
	for _, count := range []int{1, 2, 40} {
		text := "glass 1 1\n" + strings.Repeat("ring 1 0 0 1 0\n", count) + strings.Repeat("cap 1 1 0 up\n", min(count, 4))
		if g, n, e := blank.Parse(text); len(g.Parts) != count || len(g.Caps) != min(count, 4) || n != 0 || e != api.OK {
			t.Error(count, g, n, e)
		}
	}
}

func TestP3_6LongTexts(t *testing.T) {
	checkParse(t, strings.Repeat("x", 60001), 0, api.ErrLarge)
	checkParse(t, strings.Repeat("\n", 60001), 0, api.ErrLarge)
	checkParse(t, strings.Repeat("\n", 60000), 1, api.ErrSyntax)
	checkParse(t, strings.Repeat("x", 60000), 1, api.ErrSyntax)
	checkParse(t, "glass 1 "+strings.Repeat("1", 59991)+"\n", 1, api.ErrSyntax)
	checkParse(t, "glass 1 1\n"+strings.Repeat("ring 1 0 0 1 0\n", 3999)+"x\n\n\n\n", 4001, api.ErrSyntax)
	checkParse(t, "glass 1 10\n"+strings.Repeat("ring 1 0 0 1 0\n", 3999), 0, api.ErrLarge)
	checkParse(t, "glass 1 100\n"+strings.Repeat("ring 1 0 0 10 0\n", 3749)+"\n\n\n\n", 3751, api.ErrSyntax)
}

var lineForms = []*regexp.Regexp{
	regexp.MustCompile(`^glass N N\n$`),
	regexp.MustCompile(`^(?:ring|cut)(?: N){5}\n$`),
	regexp.MustCompile(`^(?:cap|dish)(?: N){3} (?:up|down)\n$`),
}

var numberForm = regexp.MustCompile(`( )(?:0|-?[1-9][0-9]{0,6})\b`)

// reference reads a text by the forms of its lines. It reads nothing that is wrong.
func reference(text string) (api.Glass, int, api.Errno) {
	var g api.Glass
	lines := strings.SplitAfter(text, "\n")
	if last := len(lines) - 1; last > 0 && lines[last] == "" {
		lines = lines[:last]
	}
	kind := -1
	for i, line := range lines {
		shape := line
		for next := numberForm.ReplaceAllString(shape, "${1}N"); next != shape; next = numberForm.ReplaceAllString(shape, "${1}N") {
			shape = next
		}
		now := slices.IndexFunc(lineForms, func(r *regexp.Regexp) bool { return !strings.Contains(line, "N") && r.MatchString(shape) })
		if now < 0 || (now == 0) != (i == 0) || now < kind {
			return api.Glass{}, i + 1, api.ErrSyntax
		}
		kind = now
		words := strings.Fields(line)
		var n [6]int
		for j, w := range words[1:] {
			n[j], _ = strconv.Atoi(w)
		}
		switch kind {
		case 0:
			g.Density, g.Thick = n[0], n[1]
		case 1:
			g.Parts = append(g.Parts, api.GlassPart{Outer: n[0], Inner: n[1], From: n[2], To: n[3], Count: n[4], Cut: words[0] == "cut"})
		case 2:
			g.Caps = append(g.Caps, api.GlassCap{Radius: n[0], Height: n[1], At: n[2], Up: words[4] == "up", Cut: words[0] == "dish"})
		}
	}
	if e := blank.CheckGlass(g); e != api.OK {
		return api.Glass{}, 0, e
	}
	return g, 0, api.OK
}

// spoilt is a text with a few bytes or pieces changed, or one of its words.
func spoilt(random *rand.Rand, text string) string {
	if random.IntN(2) == 0 {
		words := []string{"0", "1", "7", "30", "-3", "9999999", "10000000", "cut", "ring", "dish", "cap", "up", "glass"}
		old := strings.Fields(text)
		return strings.Replace(text, old[random.IntN(len(old))], words[random.IntN(len(words))], 1)
	}
	pieces := []string{" ", "\n", "0", "1", "9", "-", "-0", "a", "\r", "\x80", "ring 5 0 0 1 0\n", "cap 1 1 1 down\n", "glass 1 1\n", "up", "down", "dish", " 7", "\n\n", "N"}
	for range random.IntN(4) {
		at := random.IntN(len(text) + 1)
		end := min(at+random.IntN(3), len(text))
		text = text[:at] + pieces[random.IntN(len(pieces))] + text[end:]
	}
	return text
}

func TestP3_6AgainstReference(t *testing.T) {
	random := rand.New(rand.NewPCG(3, 6))
	counts := map[api.Errno]int{}
	for range 30000 {
		g := someValidGlass(random)
		if random.IntN(10) > 0 {
			g.Parts = g.Parts[:min(len(g.Parts), 3)]
		}
		text, _ := blank.Print(g)
		if text == "" {
			text = richText
		} else if random.IntN(50) == 0 {
			text += strings.Repeat("cap 1 1 1 down\n", 4)
		}
		text = spoilt(random, text)
		x, n, e := blank.Parse(text)
		want, n2, e2 := reference(text)
		if !same(x, want) || n != n2 || e != e2 {
			t.Fatalf("%q: %v, %d, %d; wanted %v, %d, %d", text, x, n, e, want, n2, e2)
		}
		counts[e]++
	}
	for _, e := range []api.Errno{api.OK, api.ErrSyntax, api.ErrRange, api.ErrForm, api.ErrOrder, api.ErrLarge, api.ErrZero} {
		if counts[e] < 20 {
			t.Error("too few of a kind", e, counts)
		}
	}
}

func TestP3_9ParseUndoesPrint(t *testing.T) {
	random := rand.New(rand.NewPCG(9, 3))
	for range 10000 {
		g := someValidGlass(random)
		text, e := blank.Print(g)
		x, n, e2 := blank.Parse(text)
		if !same(x, g) || n != 0 || agree(t, e, e2) != api.OK {
			t.Fatalf("%v: %q, %v, %d", g, text, x, n)
		}
		if again, e := blank.Print(x); again != text || e != api.OK {
			t.Fatalf("%q, %q", text, again)
		}
	}
	// the longest text that there is
	g := api.Glass{Density: 10000, Thick: 500}
	for range 40 {
		g.Parts = append(g.Parts, api.GlassPart{Outer: 1000, From: 100, To: 500, Count: 100})
	}
	for range 4 {
		g.Caps = append(g.Caps, api.GlassCap{Radius: 100000, Height: 400, At: 500, Cut: true})
	}
	text, e := blank.Print(g)
	if x, n, e2 := blank.Parse(text); !same(x, g) || n != 0 || agree(t, e, e2) != api.OK {
		t.Error(len(text), x, n)
	}
}
