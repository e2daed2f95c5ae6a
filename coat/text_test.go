package coat_test

import (
	"math"
	"math/rand/v2"
	"regexp"
	"slices"
	"strconv"
	"strings"
	"testing"

	"speculum/api"
	"speculum/coat"
)

func TestP8_7FormatCoating(t *testing.T) {
	for _, c := range []struct {
		x    api.CoatEvent
		want string
	}{
		{event("m", 600, 1), "m 600 1"},
		{event("m1", 0, 0), "m1 0 0"},
		{event("", -1, -2), " -1 -2"},
		{event("a b\n", math.MinInt, math.MaxInt), "a b\n -9223372036854775808 9223372036854775807"},
		{event("\xff\x00", 100001, 3), "\xff\x00 100001 3"},
	} {
		if s := coat.FormatCoating(c.x); s != c.want {
			t.Errorf("%v: %q", c, s)
		}
	}
}

func TestP8_7ParseCoating(t *testing.T) {
	for _, x := range []api.CoatEvent{event("m", 600, 1), event("m1", 0, 0), event("abcdefghijkl", 100000, 2), event("a-", 99999, 0)} {
		if got, e := coat.ParseCoating(coat.FormatCoating(x)); got != x || e != api.OK {
			t.Error(x, got, e)
		}
	}
}

// badNumbers are words that are no numbers of at most 7 digits.
var badNumbers = []string{
	"", "x", "01", "00", "-0", "-01", "+1", "-", "--1", "1.0", "1.", "10000000", "-10000000", "09999999", "99999999999999999999", "-99999999999999999999", "0x1", "1_0", "1e0", "\u0661", "1\x00", "\x801", "1-", "a", "1\n", "\n1", "1\t",
	"9223372036854775808", "18446744073709551617",
}

// checkCoating checks that a text of an event is refused.
func checkCoating(t *testing.T, text string, want api.Errno) {
	t.Helper()
	if x, e := coat.ParseCoating(text); x != (api.CoatEvent{}) || e != want {
		t.Errorf("%.200q: %v, %d, wanted %d", text, x, e, want)
	}
}

func TestP8_7CoatingSyntax(t *testing.T) {
	wrong := []string{
		"", " ", "  ", "   ", "m", "m ", "m 600", "m 600 ", " 600", "m  1", "m  600 1", "m 600  1", " m 600 1", "m 600 1 ", "m 600 1 1", "m 600 1\n", "600 1", "m 1 m", "m\t600 1", "m,600,1", "1 2 m", "m 600 x", "m 06 1",
		"m 600 1 \n", "m  ", "m 600 1 x y",
	}
	for _, number := range badNumbers {
		wrong = append(wrong, "m "+number+" 1", "m 600 "+number, " "+number+" 1", "1a 600 "+number)
	}
	for _, text := range wrong {
		checkCoating(t, text, api.ErrSyntax)
	}
}

func TestP8_7CoatingErrors(t *testing.T) {
	numbers := []string{"-9999999", "-1", "3", "100001", "9999999"}
	for _, name := range badNames {
		if strings.Contains(name, " ") {
			continue
		}
		checkCoating(t, name+" 600 1", api.ErrName)
		checkCoating(t, name+" -1 3", api.ErrName)
	}
	for _, day := range numbers {
		if day != "3" {
			checkCoating(t, "m "+day+" 0", api.ErrRange)
			checkCoating(t, "m "+day+" -1", api.ErrRange)
		}
	}
	for _, kind := range numbers {
		checkCoating(t, "m 0 "+kind, api.ErrKind)
	}
	checkCoating(t, strings.Repeat("a", 100000)+" 1 1", api.ErrName)
	checkCoating(t, strings.Repeat(" ", 100000), api.ErrSyntax)
	checkCoating(t, "a 1 "+strings.Repeat("1", 100000), api.ErrSyntax)
}

var coatingForm = regexp.MustCompile(`\A([^ ]*) (0|-?[1-9][0-9]{0,6}) (0|-?[1-9][0-9]{0,6})\z`)

// coatingOf reads a text of an event by its form.
func coatingOf(text string) (api.CoatEvent, api.Errno) {
	found := coatingForm.FindStringSubmatch(text)
	if found == nil {
		return api.CoatEvent{}, api.ErrSyntax
	}
	day, _ := strconv.Atoi(found[2])
	kind, _ := strconv.Atoi(found[3])
	x := event(found[1], day, kind)
	if _, e := coat.CheckHistory(api.Aging{}, []api.CoatEvent{x}); e != api.OK && e != api.ErrState {
		return api.CoatEvent{}, e
	}
	return x, api.OK
}

// spoilt is a text with a few bytes or pieces changed.
func spoilt(random *rand.Rand, text string, pieces []string) string {
	for range random.IntN(4) {
		at := random.IntN(len(text) + 1)
		end := min(at+random.IntN(3), len(text))
		text = text[:at] + pieces[random.IntN(len(pieces))] + text[end:]
	}
	return text
}

func TestP8_7CoatingsAgainstReference(t *testing.T) {
	random := rand.New(rand.NewPCG(8, 7))
	pieces := []string{" ", "0", "1", "2", "7", "9", "-", "a", "\n", "\x80", "-1", "000", "", "m"}
	counts := map[api.Errno]int{}
	for range 30000 {
		text := spoilt(random, coat.FormatCoating(event(names[random.IntN(len(names))], random.IntN(100001), random.IntN(3))), pieces)
		x, e := coat.ParseCoating(text)
		if x2, e2 := coatingOf(text); x != x2 || e != e2 {
			t.Fatalf("%q: %v, %d; wanted %v, %d", text, x, e, x2, e2)
		}
		counts[e]++
	}
	for _, e := range []api.Errno{api.OK, api.ErrSyntax, api.ErrName, api.ErrRange, api.ErrKind} {
		if counts[e] < 100 {
			t.Error("too few of a kind", e, counts)
		}
	}
}

// checkText checks that layers have a text, and the other way round.
func checkText(t *testing.T, text string, l []api.CoatLayer) {
	t.Helper()
	if s, e := coat.Print(l); s != text || e != api.OK {
		t.Errorf("%v: %.200q, %d", l, s, e)
	}
	if m, n, e := coat.Parse(text); !slices.Equal(m, l) || n != 0 || e != api.OK {
		t.Errorf("%.200q: %v, %d, %d", text, m, n, e)
	}
}

// checkParse checks that a text of layers is refused.
func checkParse(t *testing.T, text string, line int, want api.Errno) {
	t.Helper()
	if l, n, e := coat.Parse(text); l != nil || n != line || e != want {
		t.Errorf("%.200q: %v, %d, %d; wanted %d, %d", text, l, n, e, line, want)
	}
}

func TestP8_7Texts(t *testing.T) {
	checkText(t, "", nil)
	checkText(t, "layer al 5\n", []api.CoatLayer{layer("al", 5)})
	checkText(t, "layer al 1\nlayer si 100000\nlayer al 1\n", []api.CoatLayer{layer("al", 1), layer("si", 100000), layer("al", 1)})
	checkText(t, "layer layer 7\n", []api.CoatLayer{layer("layer", 7)})
	for _, name := range names {
		checkText(t, "layer "+name+" 12\n", []api.CoatLayer{layer(name, 12)})
	}
	checkText(t, strings.Repeat("layer abcdefghijkl 100000\n", 40), slices.Repeat([]api.CoatLayer{layer("abcdefghijkl", 100000)}, 40))
}

func printError(t *testing.T, x recipe) api.Errno {
	t.Helper()
	s, e := coat.Print(x.r)
	none(t, e, s == "")
	return e
}

func TestP8_7PrintFaults(t *testing.T) {
	faults := []fault[recipe]{
		{func(x *recipe) { x.r = make([]api.CoatLayer, 41) }, api.ErrLarge},
		{func(x *recipe) { x.r = slices.Repeat([]api.CoatLayer{layer("al", 1)}, 41) }, api.ErrLarge},
	}
	for i := range 3 {
		faults = append(faults, nameFaults(func(x *recipe) *string { return &x.r[i].Material }, "")...)
		faults = append(faults, numberFaults(func(x *recipe) *int { return &x.r[i].Counts }, 1, 100000, api.ErrRange)...)
		checkLimits(t, validRecipe, printError, func(x *recipe) *int { return &x.r[i].Counts }, 1, 100000)
	}
	checkFaults(t, validRecipe, printError, faults)
}

func TestP8_7WrongLines(t *testing.T) {
	wrong := []string{
		"", " ", "layer", "layer ", "layer al", "layer al ", "layer 5", "layer  al 5", "layer al  5", " layer al 5", "layer al 5 ", "layer al 5 5", "al 5", "al 5 layer", "Layer al 5", "layers al 5", "laye al 5", "xlayer al 5",
		"layer\tal 5", "layer al\t5", "layer al 5\r", "layer al 5\x00", "layer,al,5", "layer 5 al", "layer al five", "layer al 5 #", "  5",
	}
	for _, number := range badNumbers {
		if !strings.Contains(number, "\n") {
			wrong = append(wrong, "layer al "+number, "layer  "+number)
		}
	}
	for _, line := range wrong {
		checkParse(t, line+"\n", 1, api.ErrSyntax)
		checkParse(t, line+"\nlayer al 5\n", 1, api.ErrSyntax)
		checkParse(t, "layer al 5\n"+line+"\n", 2, api.ErrSyntax)
		checkParse(t, "layer  0\nlayer al 5\n"+line+"\nlayer al 5\nx", 3, api.ErrSyntax)
	}
	checkParse(t, "layer al 5", 1, api.ErrSyntax)
	checkParse(t, "layer al 5\nlayer si 6", 2, api.ErrSyntax)
	checkParse(t, "layer al 5\n\nlayer si 6\n", 2, api.ErrSyntax)
	checkParse(t, "layer al 5\nlayer si 6\n ", 3, api.ErrSyntax)
	checkParse(t, "layer al 5\r\nlayer si 6\r\n", 1, api.ErrSyntax)
}

// TestP8_7Errors checks that what lines say is told behind the form of all of them.
func TestP8_7Errors(t *testing.T) {
	checkParse(t, "layer al 0\n", 0, api.ErrRange)
	checkParse(t, "layer al -1\n", 0, api.ErrRange)
	checkParse(t, "layer al 100001\n", 0, api.ErrRange)
	checkParse(t, "layer al 9999999\n", 0, api.ErrRange)
	checkParse(t, "layer al -9999999\n", 0, api.ErrRange)
	checkParse(t, "layer  5\n", 0, api.ErrName)
	checkParse(t, "layer  0\n", 0, api.ErrName)
	checkParse(t, "layer 1 5\n", 0, api.ErrName)
	checkParse(t, "layer abcdefghijklm 5\n", 0, api.ErrName)
	checkParse(t, "layer al\r 5\n", 0, api.ErrName)
	checkParse(t, "layer \xff 5\n", 0, api.ErrName)
	checkParse(t, "layer al 0\nlayer  5\n", 0, api.ErrRange)
	checkParse(t, "layer al 5\nlayer  5\nlayer al 0\n", 0, api.ErrName)
	checkParse(t, "layer al 0\nlayer", 2, api.ErrSyntax)
	checkParse(t, strings.Repeat("layer al 5\n", 41), 0, api.ErrLarge)
	checkParse(t, strings.Repeat("layer  0\n", 41), 0, api.ErrLarge)
	checkParse(t, strings.Repeat("layer al 5\n", 41)+"x", 42, api.ErrSyntax)
}

func TestP8_7LongTexts(t *testing.T) {
	checkParse(t, strings.Repeat("x", 60001), 0, api.ErrLarge)
	checkParse(t, strings.Repeat("\n", 60001), 0, api.ErrLarge)
	checkParse(t, strings.Repeat("x", 60000), 1, api.ErrSyntax)
	checkParse(t, strings.Repeat("\n", 60000), 1, api.ErrSyntax)
	checkParse(t, strings.Repeat("layer al 5\n", 5454)+"layer ", 5455, api.ErrSyntax) // 5454 * 11 + 6
	checkParse(t, strings.Repeat("layer al 5\n", 5454)+"layer a", 0, api.ErrLarge)
	checkParse(t, "layer "+strings.Repeat("a", 59991)+" 5\n", 0, api.ErrName)
	checkParse(t, "layer "+strings.Repeat("a", 59992)+" 5\n", 0, api.ErrLarge)
	checkParse(t, "layer a "+strings.Repeat("1", 59991)+"\n", 1, api.ErrSyntax)
	checkParse(t, "layer a "+strings.Repeat(" ", 59991)+"\n", 1, api.ErrSyntax)
}

var layerForm = regexp.MustCompile(`\Alayer ([^ \n]*) (0|-?[1-9][0-9]{0,6})\n\z`)

// reference reads a text of layers by the form of its lines.
func reference(text string) ([]api.CoatLayer, int, api.Errno) {
	var l []api.CoatLayer
	lines := strings.SplitAfter(text, "\n")
	if last := len(lines) - 1; lines[last] == "" {
		lines = lines[:last]
	}
	for i, line := range lines {
		found := layerForm.FindStringSubmatch(line)
		if found == nil {
			return nil, i + 1, api.ErrSyntax
		}
		counts, _ := strconv.Atoi(found[2])
		l = append(l, layer(found[1], counts))
	}
	if _, e := coat.Print(l); e != api.OK {
		return nil, 0, e
	}
	return l, 0, api.OK
}

func someLayers(random *rand.Rand, n int) []api.CoatLayer {
	var l []api.CoatLayer
	for range n {
		l = append(l, layer(names[random.IntN(len(names))], 1+random.IntN([]int{9, 100000}[random.IntN(2)])))
	}
	return l
}

func TestP8_7TextsAgainstReference(t *testing.T) {
	random := rand.New(rand.NewPCG(8, 77))
	pieces := []string{" ", "\n", "0", "1", "9", "-", "a", "\r", "\x80", "layer b 7\n", "layer", " 7", "\n\n", "000", "-1"}
	counts := map[api.Errno]int{}
	for range 30000 {
		n := 1 + random.IntN(4)
		if random.IntN(30) == 0 {
			n = 39
		}
		text, _ := coat.Print(someLayers(random, n))
		text = spoilt(random, text, pieces)
		l, n, e := coat.Parse(text)
		l2, n2, e2 := reference(text)
		if !slices.Equal(l, l2) || n != n2 || e != e2 {
			t.Fatalf("%q: %v, %d, %d; wanted %v, %d, %d", text, l, n, e, l2, n2, e2)
		}
		counts[e]++
	}
	for _, e := range []api.Errno{api.OK, api.ErrSyntax, api.ErrName, api.ErrRange} {
		if counts[e] < 100 {
			t.Error("too few of a kind", e, counts)
		}
	}
}

func TestP8_10ParseUndoesPrint(t *testing.T) {
	random := rand.New(rand.NewPCG(8, 101))
	for round := range 2000 {
		l := someLayers(random, round%41)
		text, e := coat.Print(l)
		m, n, e2 := coat.Parse(text)
		if !slices.Equal(m, l) || n != 0 || agree(t, e, e2) != api.OK {
			t.Fatal(l, m, n)
		}
		if again, e := coat.Print(m); again != text || e != api.OK {
			t.Fatalf("%q, %q, %d", text, again, e)
		}
	}
}

func TestP8_10ParseCoatingUndoesFormatCoating(t *testing.T) {
	random := rand.New(rand.NewPCG(8, 102))
	for range 5000 {
		x := event(names[random.IntN(len(names))], random.IntN(100001), random.IntN(3))
		if y, e := coat.ParseCoating(coat.FormatCoating(x)); x != y || e != api.OK {
			t.Fatal(x, y, e)
		}
	}
}
