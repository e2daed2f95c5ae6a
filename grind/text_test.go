package grind_test

import (
	"math"
	"math/rand/v2"
	"regexp"
	"slices"
	"strconv"
	"strings"
	"testing"

	"speculum/api"
	"speculum/grind"
)

func TestP4_3SessionTexts(t *testing.T) {
	for text, want := range map[string]api.GrindSession{
		"m short 3": session("m", "short", 3), "  0": {}, " b 1": session("", "b", 1), "a  1": session("a", "", 1),
		"m s 9999999": session("m", "s", 9999999), "m s -9999999": session("m", "s", -9999999), "m s -1": session("m", "s", -1),
		"1\t2 \n 7": session("1\t2", "\n", 7), "\xff \u00e4 10": session("\xff", "\u00e4", 10), "1 2 3": session("1", "2", 3),
		strings.Repeat("x", 70000) + " y 5": session(strings.Repeat("x", 70000), "y", 5),
	} {
		if x, e := grind.ParseSession(text); x != want || e != api.OK {
			t.Errorf("%.99q: %.99v, %d", text, x, e)
		}
		if s := grind.FormatSession(want); s != text {
			t.Errorf("%.99v: %.99q", want, s)
		}
	}
	for _, text := range []string{
		"", " ", "  ", "m", "m short", "m short ", "m short 3 ", " m short 3", "m  short 3", "m short  3", "m short 3 4", "m short x", "m\tshort 3", "m short\t3",
		"m short 03", "m short 00", "m short -0", "m short -03", "m short +3", "m short - 3", "m short -", "m short --3", "m short 3\n", "m short 3\r", "m short 3.0",
		"m short 10000000", "m short -10000000", "m short 99999999999999999999", "m short 0x1", "m short 1_0", "m short 3e0", "m short \u0663", "m short 3\x00", "3",
	} {
		if x, e := grind.ParseSession(text); x != (api.GrindSession{}) || e != api.ErrSyntax {
			t.Errorf("%q: %v, %d", text, x, e)
		}
	}
	for x, want := range map[api.GrindSession]string{
		session("a b", "", math.MinInt): "a b  -9223372036854775808", session("\n", "c d", math.MaxInt): "\n c d 9223372036854775807",
		session("", "", -7): "  -7",
	} {
		if s := grind.FormatSession(x); s != want {
			t.Errorf("%q, wanted %q", s, want)
		}
	}
}

func sameStrokes(a, b []api.Stroke) bool {
	return slices.EqualFunc(a, b, func(x, y api.Stroke) bool { return x.Name == y.Name && slices.Equal(x.Wear, y.Wear) })
}

func checkParse(t *testing.T, text string, line int, want api.Errno) {
	t.Helper()
	if l, n, e := grind.Parse(text); l != nil || n != line || e != want {
		t.Errorf("%.200q: %v, %d, %d; wanted %d, %d", text, l, n, e, line, want)
	}
}

const chapterText = "stroke long 1 2 3\nstroke short 4 2 1\n"

func TestP4_7Texts(t *testing.T) {
	for text, l := range map[string][]api.Stroke{
		chapterText:                      chapterStrokes(),
		"stroke a 0\n":                   {stroke("a", 0)},
		"stroke stroke 100 0 10\n":       {stroke("stroke", 100, 0, 10)},
		"stroke a-1 7\nstroke A-1 100\n": {stroke("a-1", 7), stroke("A-1", 100)},
	} {
		if s, e := grind.Print(l); s != text || e != api.OK {
			t.Errorf("%v: %q, %d", l, s, e)
		}
		if x, n, e := grind.Parse(text); !sameStrokes(x, l) || n != 0 || e != api.OK {
			t.Errorf("%q: %v, %d, %d", text, x, n, e)
		}
	}
	checkFaults(t, validPolish, func(t *testing.T, x polish) api.Errno {
		s, e := grind.Print(x.l)
		none(t, e, s == "")
		return e
	}, allStrokeFaults())
}

func TestP4_7WrongLines(t *testing.T) {
	for _, line := range []string{
		"", " ", "stroke", "Stroke a 1 2 3", "strokes a 1 2 3", " stroke a 1 2 3", "stroke a 1 2 3 ", "stroke a  1 2 3", "stroke a 1  2 3", "a 1 2 3", "stroke\ta 1 2 3",
		"stroke a 1 2 x", "stroke a 1 2 03", "stroke a 1 2 00", "stroke a 1 2 -0", "stroke a 1 2 -01", "stroke a 1 2 +3", "stroke a 1 2 -", "stroke a 1 2 --3",
		"stroke a 1 2 10000000", "stroke a 1 2 -10000000", "stroke a 1 2 99999999999999999999", "stroke a 1 2 3\r", "stroke a 1 2 3.", "stroke a 1 2 0x3", "stroke a 1 2 1_0",
		"stroke a b 1 2", "stroke a 1 b 2", "stroke a ", "stroke  ", "x", "stroke a 1 2 \u0663", "stroke a 1 2 3#", "# stroke", "\x00", "stroke\n",
	} {
		checkParse(t, line+"\n", 1, api.ErrSyntax)
		checkParse(t, chapterText+line+"\n", 3, api.ErrSyntax)
		checkParse(t, chapterText+line+"\nstroke a 1 2 3\n", 3, api.ErrSyntax)
		checkParse(t, chapterText+line+"\nx\n", 3, api.ErrSyntax)
	}
	// a last line without a line feed
	checkParse(t, "stroke a 1", 1, api.ErrSyntax)
	checkParse(t, chapterText+"stroke a 1 2 3", 3, api.ErrSyntax)
	checkParse(t, chapterText+" ", 3, api.ErrSyntax)
	checkParse(t, "stroke a 1\nstroke\n", 2, api.ErrSyntax)
}

func TestP4_7ErrorsOfStrokes(t *testing.T) {
	checkParse(t, "", 0, api.ErrShape)
	checkParse(t, "stroke a 1\nstroke b 1 2\n", 0, api.ErrShape)
	checkParse(t, "stroke a\n", 0, api.ErrShape)
	checkParse(t, "stroke a"+strings.Repeat(" 1", 41)+"\n", 0, api.ErrShape)
	checkParse(t, "stroke a 1\nstroke a 1\n", 0, api.ErrExists)
	checkParse(t, "stroke  1\n", 0, api.ErrName)
	checkParse(t, "stroke \n", 0, api.ErrName)
	checkParse(t, "stroke 7 1\n", 0, api.ErrName)
	checkParse(t, "stroke a\t 1\n", 0, api.ErrName)
	checkParse(t, "stroke abcdefghijklm 1\n", 0, api.ErrName)
	checkParse(t, "stroke a 101\n", 0, api.ErrRange)
	checkParse(t, "stroke a -1\n", 0, api.ErrRange)
	checkParse(t, "stroke a -9999999\n", 0, api.ErrRange)
	checkParse(t, "stroke a 9999999\n", 0, api.ErrRange)
	// they are told behind those of all lines
	checkParse(t, "stroke a 101\nstroke a\nx\n", 3, api.ErrSyntax)
	var twelve, text strings.Builder
	for i := range 12 {
		twelve.WriteString("stroke s" + strconv.Itoa(i) + " 1\n")
	}
	text.WriteString(twelve.String())
	if l, n, e := grind.Parse(text.String()); len(l) != 12 || n != 0 || e != api.OK {
		t.Error(l, n, e)
	}
	text.WriteString("stroke s12 1\n")
	checkParse(t, text.String(), 0, api.ErrLarge)
	checkParse(t, text.String()+"\n", 14, api.ErrSyntax)
}

func TestP4_7LongTexts(t *testing.T) {
	checkParse(t, strings.Repeat("x", 60001), 0, api.ErrLarge)
	checkParse(t, strings.Repeat("\n", 60001), 0, api.ErrLarge)
	checkParse(t, strings.Repeat("\n", 60000), 1, api.ErrSyntax)
	checkParse(t, strings.Repeat("x", 60000), 1, api.ErrSyntax)
	checkParse(t, "stroke a 1"+strings.Repeat(" 1", 29994)+"\n", 0, api.ErrShape)
	checkParse(t, strings.Repeat("stroke a 1\n", 5454)+"stro\n\n", 5455, api.ErrSyntax)
	checkParse(t, strings.Repeat("stroke a 1\n", 5454), 0, api.ErrLarge)
}

var strokeLine = regexp.MustCompile(`\Astroke ([^ \n]*)((?: (?:0|-?[1-9][0-9]{0,6}))*)\n\z`)

// reference reads a text by the form of its lines.
func reference(text string) ([]api.Stroke, int, api.Errno) {
	var l []api.Stroke
	lines := strings.SplitAfter(text, "\n")
	if last := len(lines) - 1; lines[last] == "" {
		lines = lines[:last]
	}
	for i, line := range lines {
		parts := strokeLine.FindStringSubmatch(line)
		if parts == nil {
			return nil, i + 1, api.ErrSyntax
		}
		s := stroke(parts[1])
		for _, word := range strings.Fields(parts[2]) {
			n, _ := strconv.Atoi(word)
			s.Wear = append(s.Wear, n)
		}
		l = append(l, s)
	}
	if _, e := grind.CheckStrokes(l); e != api.OK {
		return nil, 0, e
	}
	return l, 0, api.OK
}

// spoilt is a text with a few bytes or pieces changed.
func spoilt(random *rand.Rand, text string) string {
	pieces := []string{" ", "\n", "0", "1", "9", "-", "-0", "a", "\r", "\x80", "stroke", "stroke b 1 2\n", "stroke s0 1\n", "stroke s0 1 2\n", " 7", "\n\n", "#", "10000000", "\t", "stroke "}
	for range random.IntN(4) {
		at := random.IntN(len(text) + 1)
		end := min(at+random.IntN(3), len(text))
		text = text[:at] + pieces[random.IntN(len(pieces))] + text[end:]
	}
	return text
}

func TestP4_7AgainstReference(t *testing.T) {
	random := rand.New(rand.NewPCG(4, 7))
	counts := map[api.Errno]int{}
	for range 40000 {
		l := someStrokes(random, 1+random.IntN(4), 1+random.IntN(4), 100)
		if random.IntN(50) == 0 {
			l = manyStrokes(13, 1)
		}
		text := chapterText
		if s, e := grind.Print(l); e == api.OK {
			text = s
		}
		text = spoilt(random, text)
		x, n, e := grind.Parse(text)
		want, n2, e2 := reference(text)
		if !sameStrokes(x, want) || n != n2 || e != e2 {
			t.Fatalf("%q: %v, %d, %d; wanted %v, %d, %d", text, x, n, e, want, n2, e2)
		}
		counts[e]++
	}
	for _, e := range []api.Errno{api.OK, api.ErrSyntax, api.ErrRange, api.ErrName, api.ErrShape, api.ErrExists} {
		if counts[e] < 20 {
			t.Error("too few of a kind", e, counts)
		}
	}
}

func TestP4_11ParseUndoesPrint(t *testing.T) {
	random := rand.New(rand.NewPCG(4, 11))
	for range 5000 {
		l := someStrokes(random, 1+random.IntN(12), 1+random.IntN(40), 100)
		text, e := grind.Print(l)
		x, n, e2 := grind.Parse(text)
		if !sameStrokes(x, l) || n != 0 || agree(t, e, e2) != api.OK {
			t.Fatalf("%v: %q, %v, %d", l, text, x, n)
		}
		if again, e := grind.Print(x); again != text || e != api.OK {
			t.Fatalf("%q, %q", text, again)
		}
		s := session(names[random.IntN(len(names))], l[random.IntN(len(l))].Name, 1+random.IntN(10000))
		if e := grind.CheckSessions(l, []api.GrindSession{s}); e != api.OK {
			t.Fatal(s, e)
		}
		if y, e := grind.ParseSession(grind.FormatSession(s)); y != s || e != api.OK {
			t.Fatal(s, y, e)
		}
	}
	// the longest text that there is
	l := manyStrokes(12, 40)
	for i := range l {
		l[i].Name = "abcdefghij" + strconv.Itoa(10+i)
		l[i].Wear = slices.Repeat([]int{100}, 40)
	}
	text, e := grind.Print(l)
	if x, n, e2 := grind.Parse(text); !sameStrokes(x, l) || n != 0 || agree(t, e, e2) != api.OK {
		t.Error(len(text), x, n)
	}
}
