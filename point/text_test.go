package point_test

import (
	"math"
	"math/rand/v2"
	"regexp"
	"slices"
	"strconv"
	"strings"
	"testing"

	"speculum/api"
	"speculum/point"
)

func TestP9_8Targets(t *testing.T) {
	long := strings.Repeat("x", 70000)
	for _, c := range []struct {
		text string
		want api.SkyTarget
	}{
		{"x 1295900 162000 0 9 1", target("x", 1295900, 162000, 0, 9, 1)},
		{" 0 0 0 0 0", api.SkyTarget{}},
		{"1 2 3 4 5 6", target("1", 2, 3, 4, 5, 6)},
		{"m 9999999999 -9999999999 9999999999 -9999999999 9999999999", target("m", 9999999999, -9999999999, 9999999999, -9999999999, 9999999999)},
		{"m 10 100 1000000000 -1000000000 -1", target("m", 10, 100, 1000000000, -1000000000, -1)},
		{"\t\r 1 2 3 4 5", target("\t\r", 1, 2, 3, 4, 5)},
		{"\xff\u00e4\x00 -1 -2 -3 -4 -5", target("\xff\u00e4\x00", -1, -2, -3, -4, -5)},
		{"a,b -1 2 3 4 5", target("a,b", -1, 2, 3, 4, 5)},
		{long + " 1 1 5 4 3", target(long, 1, 1, 5, 4, 3)},
	} {
		if x, e := point.ParseTarget(c.text); x != c.want || e != api.OK {
			t.Errorf("%.99q: %.99v, %d", c.text, x, e)
		}
		if s := point.FormatTarget(c.want); s != c.text {
			t.Errorf("%.99v: %.99q", c.want, s)
		}
	}
	for _, c := range []struct {
		x    api.SkyTarget
		want string
	}{
		{target("a b", math.MinInt, math.MaxInt, 0, -7, 7), "a b -9223372036854775808 9223372036854775807 0 -7 7"},
		{target("\n", 0, 10000000000, -10000000000, 1, math.MinInt), "\n 0 10000000000 -10000000000 1 -9223372036854775808"},
		{target("", 1, 2, 3, 4, 5), " 1 2 3 4 5"},
	} {
		if s := point.FormatTarget(c.x); s != c.want {
			t.Errorf("%q, wanted %q", s, c.want)
		}
	}
}

// badNumbers are words that are no numbers of at most 10 digits.
var badNumbers = []string{
	"", "x", "03", "00", "-0", "-03", "+3", "-", "--3", "3.0", "3.", "3\r", "3\t", "10000000000", "-10000000000", "99999999999999999999", "-99999999999999999999", "09999999999", "0x1", "1_0", "3e0", "\u0663", "3\x00", "\x803", "3-", "9223372036854775808",
	"18446744073709551617",
}

// badTargets are texts that are none of a target, and have no line feed.
func badTargets() []string {
	wrong := []string{
		"", " ", "     ", "m", "m 1", "m 1 2", "m 1 2 3", "m 1 2 3 4", "m 1 2 3 4 ", "m 1 2 3 4 5 ", "m 1 2 3 4 5 6", " m 1 2 3 4 5", "m  1 2 3 4 5", "m 1 2 3 4  5", "m\t1 2 3 4 5", "m 1 2 3 4\t5", "1 2 3 4 5", "m n 1 2 3 4 5", "m 1 2 3 4 5 x", "m 1 2 3 4 5  ",
		"m,1,2,3,4,5", "m 1 2 3 4 5" + strings.Repeat(" 1", 9000), "  1 2 3 4 5", "m 1 2 3 4 5 #", "target m 1 2 3 4 5",
	}
	for _, number := range badNumbers {
		for at := 1; at <= 5; at++ {
			words := []string{"m", "1", "2", "-3", "4", "5"}
			words[at] = number
			wrong = append(wrong, strings.Join(words, " "))
		}
	}
	return wrong
}

func TestP9_8WrongTargets(t *testing.T) {
	wrong := append(badTargets(), "m 1 2 3 4 5\n", "m 1 2 3 4 \n5", "m\n 1 2 3 4 5", "\n 1 2 3 4 5", "m\nn 1 2 3 4 5", "m 1\n2 3 4 5", "\nm 1 2 3 4 5", "m 1 2 3 4\n 5", "m \n1 2 3 4 5")
	for _, text := range wrong {
		if x, e := point.ParseTarget(text); x != (api.SkyTarget{}) || e != api.ErrSyntax {
			t.Errorf("%.99q: %v, %d", text, x, e)
		}
	}
}

var targetForm = regexp.MustCompile(`\A([^ \n]*)((?: (?:0|-?[1-9][0-9]{0,9})){5})\z`)

// targetBy reads a text of a target by its form.
func targetBy(text string) (api.SkyTarget, bool) {
	found := targetForm.FindStringSubmatch(text)
	if found == nil {
		return api.SkyTarget{}, false
	}
	var n [5]int
	for i, word := range strings.Fields(found[2]) {
		n[i], _ = strconv.Atoi(word)
	}
	return target(found[1], n[0], n[1], n[2], n[3], n[4]), true
}

// spoilt is a text with a few bytes or pieces changed.
func spoilt(random *rand.Rand, text string, pieces []string) string {
	for range random.IntN(4) {
		at := random.IntN(len(text) + 1)
		end := min(at+random.IntN(3), len(text))
		text = text[:at] + pieces[random.IntN(len(pieces))] + text[end:]
	}
	return text
}

func TestP9_8TargetsAgainstReference(t *testing.T) {
	random := rand.New(rand.NewPCG(9, 8))
	pieces := []string{" ", "\n", "0", "1", "9", "-", "-0", "a", "\r", "\x80", " 7", "  ", "10000000000", "\t", "m ", "99999", " -5"}
	right, wrong := 0, 0
	for range 40000 {
		number := func() int { return random.IntN(2001) - 1000 }
		text := spoilt(random, point.FormatTarget(target(names[random.IntN(len(names))], number(), number(), number(), number(), number())), pieces)
		x, e := point.ParseTarget(text)
		want, ok := targetBy(text)
		if x != want || ok != (e == api.OK) || !ok && e != api.ErrSyntax {
			t.Fatalf("%q: %v, %d", text, x, e)
		}
		if ok {
			right++
		} else {
			wrong++
		}
	}
	if right < 5000 || wrong < 5000 {
		t.Error("too few of a kind", right, wrong)
	}
}

// checkText checks that targets have a text, and the other way round.
func checkText(t *testing.T, text string, l []api.SkyTarget) {
	t.Helper()
	if s, e := point.Print(l); s != text || e != api.OK {
		t.Errorf("%v: %.200q, %d", l, s, e)
	}
	if m, n, e := point.Parse(text); !slices.Equal(m, l) || n != 0 || e != api.OK {
		t.Errorf("%.200q: %v, %d, %d", text, m, n, e)
	}
}

// checkParse checks that a text of targets is refused.
func checkParse(t *testing.T, text string, line int, want api.Errno) {
	t.Helper()
	if l, n, e := point.Parse(text); l != nil || n != line || e != want {
		t.Errorf("%.200q: %v, %d, %d; wanted %d, %d", text, l, n, e, line, want)
	}
}

func TestP9_8Texts(t *testing.T) {
	checkText(t, "", nil)
	checkText(t, "x 1295900 162000 0 9 1\n", []api.SkyTarget{chapterSight().t})
	checkText(t, "t0 600000 5000 0 1000 5\nt1 1200000 5000 0 1000 5\nt2 500000 5000 0 1000 5\n", chapterJourney().l)
	checkText(t, "b 0 0 0 1 1\na 1295999 324000 9999999 10000000 10000\n", []api.SkyTarget{target("b", 0, 0, 0, 1, 1), target("a", 1295999, 324000, 9999999, 10000000, 10000)})
	var text strings.Builder
	var l []api.SkyTarget
	for n := range 20 {
		name := "a" + strconv.Itoa(n)
		text.WriteString(name + " 1 2 3 4 5\n")
		l = append(l, target(name, 1, 2, 3, 4, 5))
		checkText(t, text.String(), l)
	}
	for _, name := range names {
		checkText(t, name+" 1 2 3 4 5\n", []api.SkyTarget{target(name, 1, 2, 3, 4, 5)})
	}
}

func printError(t *testing.T, x journey) api.Errno {
	t.Helper()
	s, e := point.Print(x.l)
	none(t, e, s == "")
	return e
}

func TestP9_8PrintFaults(t *testing.T) {
	faults := []fault[journey]{
		{func(x *journey) { x.l = make([]api.SkyTarget, 21) }, api.ErrLarge},
		{func(x *journey) { x.l = tourTargets(make([]int, 21)...) }, api.ErrLarge},
	}
	for n := range 3 {
		faults = append(faults, targetFaults(func(x *journey) *api.SkyTarget { return &x.l[n] })...)
		for before := range n {
			faults = append(faults, fault[journey]{func(x *journey) { x.l[n].Name = x.l[before].Name }, api.ErrExists})
		}
	}
	checkFaults(t, chapterJourney, printError, faults)
	// the faults of a list of texts are those of the targets
	for i, f := range faults[2:] {
		x := chapterJourney()
		f.spoil(&x)
		var text strings.Builder
		isWhole := true
		for _, target := range x.l {
			line := point.FormatTarget(target)
			_, ok := targetBy(line)
			isWhole = isWhole && ok
			text.WriteString(line + "\n")
		}
		if isWhole {
			checkParse(t, text.String(), 0, f.want)
		} else if l, n, e := point.Parse(text.String()); l != nil || n == 0 || e != api.ErrSyntax {
			t.Error(i, l, n, e)
		}
	}
}

func TestP9_8WrongLines(t *testing.T) {
	right := "a 1 2 3 4 5\n"
	for _, line := range badTargets() {
		checkParse(t, line+"\n", 1, api.ErrSyntax)
		checkParse(t, line+"\n"+right, 1, api.ErrSyntax)
		checkParse(t, right+line+"\n", 2, api.ErrSyntax)
		checkParse(t, " -1 2 3 4 5\n"+right+line+"\n"+right+"x", 3, api.ErrSyntax)
	}
	checkParse(t, "a 1 2 3 4 5", 1, api.ErrSyntax)
	checkParse(t, "a 1 2 3 4 5\nb 1 2 3 4 5", 2, api.ErrSyntax)
	checkParse(t, "a 1 2 3 4 5\n\nb 1 2 3 4 5\n", 2, api.ErrSyntax)
	checkParse(t, "a 1 2 3 4 5\nb 1 2 3 4\n", 2, api.ErrSyntax)
	checkParse(t, "a 1 2 3 4 5\nb 1 2 3 4 5\n ", 3, api.ErrSyntax)
	checkParse(t, "a 1 2 3 4 5\r\nb 1 2 3 4 5\r\n", 1, api.ErrSyntax)
	checkParse(t, "a 1 2 3 4 5\n\n", 2, api.ErrSyntax)
	checkParse(t, "\n", 1, api.ErrSyntax)
}

// TestP9_8Errors checks that what lines say is told behind the form of all of them.
func TestP9_8Errors(t *testing.T) {
	checkParse(t, " 1 2 3 4 5\n", 0, api.ErrName)
	checkParse(t, "1 1 2 3 4 5\n", 0, api.ErrName)
	checkParse(t, "a\r -1 2 3 4 5\n", 0, api.ErrName)
	checkParse(t, "a -1 2 3 4 5\n", 0, api.ErrRange)
	checkParse(t, "a 9999999999 2 4 3 5\n", 0, api.ErrRange)
	checkParse(t, "a 1 2 3 3 5\n", 0, api.ErrOrder)
	checkParse(t, "a 1 2 3 4 5\na 1 2 3 4 5\n", 0, api.ErrExists)
	checkParse(t, "a 1 2 3 4 5\na 1 2 4 3 5\n", 0, api.ErrOrder)
	checkParse(t, "a 1 2 3 4 5\na 1 2 3 4 5\nb -1 2 3 4 5\n", 0, api.ErrExists)
	checkParse(t, "a 1 2 3 4 5\nb -1 2 3 4 5\na 1 2 3 4 5\n", 0, api.ErrRange)
	checkParse(t, "a -1 2 3 4 5\na 1 2 3 4", 2, api.ErrSyntax)
	checkParse(t, strings.Repeat("a 1 2 3 4 5\n", 20), 0, api.ErrExists)
	checkParse(t, strings.Repeat("a 1 2 3 4 5\n", 21), 0, api.ErrLarge)
	checkParse(t, strings.Repeat(" 1 2 3 4 5\n", 21), 0, api.ErrLarge)
	checkParse(t, strings.Repeat("a 1 2 3 4 5\n", 21)+"x", 22, api.ErrSyntax)
}

func TestP9_8LongTexts(t *testing.T) {
	checkParse(t, strings.Repeat("x", 60001), 0, api.ErrLarge)
	checkParse(t, strings.Repeat("\n", 60001), 0, api.ErrLarge)
	checkParse(t, strings.Repeat("x", 60000), 1, api.ErrSyntax)
	checkParse(t, strings.Repeat("\n", 60000), 1, api.ErrSyntax)
	checkParse(t, strings.Repeat("a 1 2 3 4 5\n", 5000), 0, api.ErrLarge) // of targets
	checkParse(t, strings.Repeat("a 1 2 3 4 5\n", 4999)+"a 1 2 3 4  5", 5000, api.ErrSyntax)
	checkParse(t, strings.Repeat("a 1 2 3 4 5\n", 5000)+"a", 0, api.ErrLarge)
	checkParse(t, strings.Repeat("a", 59989)+" 1 2 3 4 5\n", 0, api.ErrName)
	checkParse(t, strings.Repeat("a", 59990)+" 1 2 3 4 5\n", 0, api.ErrLarge)
	checkParse(t, "a 1 2 3 4 "+strings.Repeat("1", 59989)+"\n", 1, api.ErrSyntax)
}

// textBy reads a text of targets by the form of its lines.
func textBy(text string) ([]api.SkyTarget, int, api.Errno) {
	var l []api.SkyTarget
	for number := 1; text != ""; number++ {
		line, rest, isWhole := strings.Cut(text, "\n")
		x, ok := targetBy(line)
		if !ok || !isWhole {
			return nil, number, api.ErrSyntax
		}
		l, text = append(l, x), rest
	}
	if _, e := point.Print(l); e != api.OK {
		return nil, 0, e
	}
	return l, 0, api.OK
}

func someTargets(random *rand.Rand, n int) []api.SkyTarget {
	var l []api.SkyTarget
	for i := range n {
		l = append(l, someTarget(random, "t"+strconv.Itoa(i)))
	}
	return l
}

func TestP9_8TextsAgainstReference(t *testing.T) {
	random := rand.New(rand.NewPCG(8, 9))
	pieces := []string{" ", "\n", "0", "1", "9", "-", "a", "\r", "\x80", "b 1 2 3 4 5\n", "t1 ", " 7", "\n\n", "000", "-1", "\nt0 1 2 3 4 5\n"}
	counts := map[api.Errno]int{}
	for range 30000 {
		n := 1 + random.IntN(4)
		if random.IntN(30) == 0 {
			n = 20
		}
		text, _ := point.Print(someTargets(random, n))
		text = spoilt(random, text, pieces)
		l, n, e := point.Parse(text)
		l2, n2, e2 := textBy(text)
		if !slices.Equal(l, l2) || n != n2 || e != e2 {
			t.Fatalf("%q: %v, %d, %d; wanted %v, %d, %d", text, l, n, e, l2, n2, e2)
		}
		counts[e]++
	}
	for _, e := range []api.Errno{api.OK, api.ErrSyntax, api.ErrName, api.ErrRange, api.ErrExists} {
		if counts[e] < 20 {
			t.Error("too few of a kind", e, counts)
		}
	}
}

func TestP9_12ParseUndoesPrint(t *testing.T) {
	random := rand.New(rand.NewPCG(12, 12))
	for round := range 3000 {
		l := someTargets(random, round%21)
		text, e := point.Print(l)
		m, n, e2 := point.Parse(text)
		if !slices.Equal(m, l) || n != 0 || agree(t, e, e2) != api.OK {
			t.Fatal(l, m, n)
		}
		if again, e := point.Print(m); again != text || e != api.OK {
			t.Fatalf("%q, %q, %d", text, again, e)
		}
		for _, x := range l {
			if y, e := point.ParseTarget(point.FormatTarget(x)); y != x || e != api.OK {
				t.Fatal(x, y, e)
			}
		}
	}
}

// TestP9_12AnyTarget checks that targets need not be valid to have a text that is read again.
func TestP9_12AnyTarget(t *testing.T) {
	random := rand.New(rand.NewPCG(12, 8))
	for range 5000 {
		number := func() int { return random.IntN(19999999999) - 9999999999 }
		name := append(slices.Clone(names), badNames...)[random.IntN(len(names)+len(badNames))]
		if strings.ContainsAny(name, " \n") {
			continue
		}
		x := target(name, number(), number(), number(), number(), number())
		if y, e := point.ParseTarget(point.FormatTarget(x)); y != x || e != api.OK {
			t.Fatal(x, y, e)
		}
	}
}
