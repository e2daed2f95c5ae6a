package figure_test

import (
	"math/rand/v2"
	"regexp"
	"slices"
	"strconv"
	"strings"
	"testing"

	"speculum/api"
	"speculum/figure"
)

// checkParse checks that a text is refused.
func checkParse(t *testing.T, text string, line int, want api.Errno) {
	t.Helper()
	if l, x, n, e := figure.Parse(text); l != nil || x != (api.FigureTolerance{}) || n != line || e != want {
		t.Errorf("%.200q: %v, %v, %d, %d; wanted %d, %d", text, l, x, n, e, line, want)
	}
}

// checkText checks that an enclosure and a tolerance have a text, and the other way round.
func checkText(t *testing.T, text string, l []api.Range, x api.FigureTolerance) {
	t.Helper()
	if s, e := figure.Print(l, x); s != text || e != api.OK {
		t.Errorf("%v, %v: %.200q, %d", l, x, s, e)
	}
	if m, y, n, e := figure.Parse(text); !slices.Equal(m, l) || y != x || n != 0 || e != api.OK {
		t.Errorf("%.200q: %v, %v, %d, %d", text, m, y, n, e)
	}
}

const chapterText = "tolerance 3 2\nzone 0 2\nzone 1 4\nzone 3 5\n"

func TestP6_7Texts(t *testing.T) {
	checkText(t, chapterText, chapterEnclosure(), tolerance(3, 2))
	checkText(t, "tolerance 1 1\nzone 0 0\nzone 0 2\n", []api.Range{{}, span(0, 2)}, tolerance(1, 1))
	checkText(t, "tolerance 200000 0\nzone -100000 100000\n", []api.Range{span(-100000, 100000)}, tolerance(200000, 0))
	checkText(t, "tolerance 0 200000\nzone -10 -9\nzone 0 0\n", []api.Range{span(-10, -9), {}}, tolerance(0, 200000))
	checkText(t, "tolerance 10 100\n"+strings.Repeat("zone -100000 -100000\n", 40), slices.Repeat(exact(-100000), 40), tolerance(10, 100))
}

func TestP6_7PrintFaults(t *testing.T) {
	checkFaults(t, validRated, func(t *testing.T, x rated) api.Errno {
		t.Helper()
		s, e := figure.Print(x.l, x.t)
		none(t, e, s == "")
		return e
	}, acceptanceFaults())
}

func TestP6_7WrongLines(t *testing.T) {
	wrong := []string{
		"", " ", "1 2", "tolerance", "zone", "W", "W ", "W 1", "W 1 ", "W  1", "W 1  2", "W  1 2", " W 1 2", "W 1 2 ", "W 1 2 3", "W 1 2 ?", "W1 2 3", "Wx 1 2", "xW 1 2", "W\t1 2", "W 1\t2", "W 1 2\r",
		"W,1,2", "w 1 2", "W 1 2\x00", "W 1,2", "1 2 W", "1 W 2", "W 1 2 #", "zones 1 2", "tolerances 1 2", "Zone 1 2", "Tolerance 1 2", "zon 1 2", "toleranc 1 2",
	}
	for _, number := range []string{
		"", "x", "01", "00", "-0", "-01", "+1", "-", "--1", "1.0", "1.", "10000000", "-10000000", "09999999", "99999999999999999999", "-99999999999999999999", "0x1", "1_0", "1e0", "\u0661", "1\x00", "\x801", "1-",
	} {
		wrong = append(wrong, "W "+number+" 2", "W 1 "+number)
	}
	for _, line := range wrong {
		first, other := strings.ReplaceAll(line, "W", "tolerance"), strings.ReplaceAll(line, "W", "zone")
		checkParse(t, first+"\n", 1, api.ErrSyntax)
		checkParse(t, first+"\nzone 1 2\n", 1, api.ErrSyntax)
		checkParse(t, "tolerance 1 2\n"+other+"\n", 2, api.ErrSyntax)
		checkParse(t, chapterText+other+"\nzone 1 2\nx", 5, api.ErrSyntax)
	}
	for _, text := range []string{"", "\n", "\n\n", "tolerance 1 2", "zone 1 2\n", "zone 1 2", "\ntolerance 1 2\n", "zone 1 2\ntolerance 1 2\n", "x", " "} {
		checkParse(t, text, 1, api.ErrSyntax)
	}
	for _, text := range []string{"tolerance 1 2\ntolerance 1 2\n", "tolerance 1 2\n\n", "tolerance 1 2\nzone 1 2", "tolerance 1 2\nzone 1 2 \nzone 1 2", "tolerance 1 2\n\nzone 1 2\n", "tolerance 1 2\n "} {
		checkParse(t, text, 2, api.ErrSyntax)
	}
	checkParse(t, chapterText+"tolerance 3 2\n", 5, api.ErrSyntax)
	checkParse(t, chapterText+"\n", 5, api.ErrSyntax)
	checkParse(t, chapterText[:len(chapterText)-1], 4, api.ErrSyntax)
}

// TestP6_7Errors checks that what lines say is told behind the form of all of them.
func TestP6_7Errors(t *testing.T) {
	checkParse(t, "tolerance 1 2\n", 0, api.ErrShape)
	checkParse(t, "tolerance -1 2\n", 0, api.ErrShape)
	checkParse(t, "tolerance 1 2\n"+strings.Repeat("zone 0 0\n", 41), 0, api.ErrShape)
	checkParse(t, "tolerance 1 2\n"+strings.Repeat("zone 1 0\n", 41), 0, api.ErrShape)
	checkParse(t, "tolerance 1 2\n"+strings.Repeat("zone 0 0\n", 41)+"x\n", 43, api.ErrSyntax)
	checkParse(t, "tolerance 1 2\nzone 1 0\n", 0, api.ErrOrder)
	checkParse(t, "tolerance -1 2\nzone 1 0\n", 0, api.ErrOrder)
	checkParse(t, "tolerance 1 2\nzone 1 0\nzone 100001 0\n", 0, api.ErrOrder)
	checkParse(t, "tolerance 1 2\nzone 1 9999999\nzone 1 0\n", 0, api.ErrRange)
	checkParse(t, "tolerance 1 2\nzone -9999999 0\n", 0, api.ErrRange)
	checkParse(t, "tolerance -1 2\nzone 0 0\n", 0, api.ErrRange)
	checkParse(t, "tolerance 1 200001\nzone 0 0\n", 0, api.ErrRange)
	checkParse(t, "tolerance 9999999 -9999999\nzone 0 0\n", 0, api.ErrRange)
	checkParse(t, "tolerance -1 2\nzone 1 0\nzone 0 0", 3, api.ErrSyntax)
}

func TestP6_7LongTexts(t *testing.T) {
	checkParse(t, strings.Repeat("x", 60001), 0, api.ErrLarge)
	checkParse(t, strings.Repeat("\n", 60001), 0, api.ErrLarge)
	checkParse(t, strings.Repeat("x", 60000), 1, api.ErrSyntax)
	checkParse(t, strings.Repeat("\n", 60000), 1, api.ErrSyntax)
	checkParse(t, "tolerance 1 "+strings.Repeat("1", 59987)+"\n", 1, api.ErrSyntax)
	checkParse(t, "tolerance 1 "+strings.Repeat(" ", 59987)+"\n", 1, api.ErrSyntax)
	// 18 bytes, and 9 in each other line
	checkParse(t, "tolerance 111 222\n"+strings.Repeat("zone 0 0\n", 6664)+"zone\n", 6666, api.ErrSyntax)
	checkParse(t, "tolerance 111 222\n"+strings.Repeat("zone 0 0\n", 6664)+"zone -", 6666, api.ErrSyntax)
	checkParse(t, "tolerance 111 222\n"+strings.Repeat("zone 0 0\n", 6664)+"zone -9", 0, api.ErrLarge)
	checkParse(t, "tolerance 111111 222222\n"+strings.Repeat("zone 0 0\n", 6664), 0, api.ErrShape)
}

var lineForm = regexp.MustCompile(`\A(tolerance|zone) (0|-?[1-9][0-9]{0,6}) (0|-?[1-9][0-9]{0,6})\n\z`)

// reference reads a text by the form of its lines. It reads nothing that is wrong.
func reference(text string) ([]api.Range, api.FigureTolerance, int, api.Errno) {
	var numbers [][2]int
	lines := strings.SplitAfter(text, "\n")
	if last := len(lines) - 1; last > 0 && lines[last] == "" {
		lines = lines[:last]
	}
	for i, line := range lines {
		found := lineForm.FindStringSubmatch(line)
		if found == nil || (found[1] == "tolerance") != (i == 0) {
			return nil, api.FigureTolerance{}, i + 1, api.ErrSyntax
		}
		a, _ := strconv.Atoi(found[2])
		b, _ := strconv.Atoi(found[3])
		numbers = append(numbers, [2]int{a, b})
	}
	x := tolerance(numbers[0][0], numbers[0][1])
	var l []api.Range
	for _, n := range numbers[1:] {
		l = append(l, span(n[0], n[1]))
	}
	for _, e := range []api.Errno{figure.CheckEnclosure(l), figure.CheckTolerance(x)} {
		if e != api.OK {
			return nil, api.FigureTolerance{}, 0, e
		}
	}
	return l, x, 0, api.OK
}

// spoilt is a text with a few bytes or pieces changed, or one of its words.
func spoilt(random *rand.Rand, text string) string {
	if random.IntN(2) == 0 {
		words := []string{"0", "1", "-3", "100000", "100001", "-100001", "9999999", "10000000", "-0", "zone", "tolerance"}
		old := strings.Fields(text)
		return strings.Replace(text, old[random.IntN(len(old))], words[random.IntN(len(words))], 1)
	}
	pieces := []string{" ", "\n", "0", "1", "9", "-", "a", "\r", "\x80", "zone 1 2\n", "zone 2 1\n", "tolerance 1 1\n", "zone", " 7", "\n\n", "  "}
	for range random.IntN(4) {
		at := random.IntN(len(text) + 1)
		end := min(at+random.IntN(3), len(text))
		text = text[:at] + pieces[random.IntN(len(pieces))] + text[end:]
	}
	return text
}

func TestP6_7AgainstReference(t *testing.T) {
	random := rand.New(rand.NewPCG(6, 7))
	counts := map[api.Errno]int{}
	for range 30000 {
		l := someEnclosure(random)
		text, _ := figure.Print(l, tolerance(random.IntN(200001), random.IntN(30)))
		switch random.IntN(40) {
		case 0:
			text += strings.Repeat("zone 1 2\n", 34+random.IntN(8))
		case 1:
			text = "tolerance 5 -5\n"
		}
		text = spoilt(random, text)
		m, x, n, e := figure.Parse(text)
		m2, x2, n2, e2 := reference(text)
		if !slices.Equal(m, m2) || x != x2 || n != n2 || e != e2 {
			t.Fatalf("%q: %v, %v, %d, %d; wanted %v, %v, %d, %d", text, m, x, n, e, m2, x2, n2, e2)
		}
		counts[e]++
	}
	for _, e := range []api.Errno{api.OK, api.ErrSyntax, api.ErrRange, api.ErrOrder, api.ErrShape} {
		if counts[e] < 200 {
			t.Error("too few of a kind", e, counts)
		}
	}
}

func TestP6_11ParseUndoesPrint(t *testing.T) {
	random := rand.New(rand.NewPCG(11, 7))
	for range 5000 {
		l, x := greatEnclosure(random), tolerance(random.IntN(200001), random.IntN(200001))
		text, e := figure.Print(l, x)
		m, y, n, e2 := figure.Parse(text)
		if !slices.Equal(m, l) || y != x || n != 0 || agree(t, e, e2) != api.OK {
			t.Fatal(l, x, m, y, n)
		}
		if again, e := figure.Print(m, y); again != text || e != api.OK {
			t.Fatalf("%q, %q, %d", text, again, e)
		}
	}
}
