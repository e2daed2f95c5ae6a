package profile_test

import (
	"math"
	"math/rand/v2"
	"regexp"
	"strconv"
	"strings"
	"testing"

	"speculum/api"
	"speculum/profile"
)

func mirrorReading(mirror string, from, to, lo, hi int) api.MirrorReading {
	return api.MirrorReading{Mirror: mirror, Reading: reading(from, to, lo, hi)}
}

func TestP5_9Texts(t *testing.T) {
	for text, want := range map[string]api.MirrorReading{
		"m1 1 2 -20 0": mirrorReading("m1", 1, 2, -20, 0), " 0 0 0 0": mirrorReading("", 0, 0, 0, 0), "1 2 3 4 5": mirrorReading("1", 2, 3, 4, 5),
		"m 9999999999 -9999999999 9999999999 -9999999999": mirrorReading("m", 9999999999, -9999999999, 9999999999, -9999999999),
		"m 10 100 1000000000 -1000000000":                 mirrorReading("m", 10, 100, 1000000000, -1000000000),
		"\t\r 1 2 3 4":                                    mirrorReading("\t\r", 1, 2, 3, 4), "\xff\u00e4\x00 -1 -2 -3 -4": mirrorReading("\xff\u00e4\x00", -1, -2, -3, -4), "a,b -1 2 3 4": mirrorReading("a,b", -1, 2, 3, 4),
		strings.Repeat("x", 70000) + " 1 1 5 4": mirrorReading(strings.Repeat("x", 70000), 1, 1, 5, 4),
	} {
		if x, e := profile.ParseReading(text); x != want || e != api.OK {
			t.Errorf("%.99q: %.99v, %d", text, x, e)
		}
		if s := profile.FormatReading(want); s != text {
			t.Errorf("%.99v: %.99q", want, s)
		}
	}
	for x, want := range map[api.MirrorReading]string{
		mirrorReading("a b", math.MinInt, math.MaxInt, 0, -7): "a b -9223372036854775808 9223372036854775807 0 -7",
		mirrorReading("\n", 0, 10000000000, -10000000000, 1):  "\n 0 10000000000 -10000000000 1",
		mirrorReading("", 1, 2, 3, 4):                         " 1 2 3 4",
		{}:                                                    " 0 0 0 0",
	} {
		if s := profile.FormatReading(x); s != want {
			t.Errorf("%q, wanted %q", s, want)
		}
	}
}

func TestP5_9WrongTexts(t *testing.T) {
	words := []string{"m", "1", "2", "-20", "3"}
	for _, wrong := range []string{
		"", "x", "03", "00", "-0", "-03", "+3", "-", "--3", "3.0", "3\n", "3\r", "\n3", "3\t", "10000000000", "-10000000000", "99999999999999999999", "-99999999999999999999",
		"09999999999", "0x1", "1_0", "3e0", "\u0663", "3\x00", " 3", "3 ", "3 4",
	} {
		for at := 1; at < len(words); at++ {
			l := append([]string{}, words...)
			l[at] = wrong
			checkWrong(t, strings.Join(l, " "))
		}
	}
	for _, text := range []string{
		"", " ", "    ", "m", "m 1", "m 1 2", "m 1 2 -20", "m 1 2 -20 ", "m 1 2 -20 3 ", "m 1 2 -20 3 4", " m 1 2 -20 3", "m  1 2 -20 3", "m 1 2 -20  3", "m\t1 2 -20 3", "m 1 2 -20 3\n",
		"1 2 3 4", "m n 1 2 -20 3", "m\n 1 2 -20 3", "\n 1 2 -20 3", "m\nn 1 2 -20 3", "m 1 2 -20 3 x", "m 1 2 -20 3  ", "m1,2,-20,3", "m 1 2 -20 3" + strings.Repeat(" 1", 9000),
	} {
		checkWrong(t, text)
	}
}

func checkWrong(t *testing.T, text string) {
	t.Helper()
	if x, e := profile.ParseReading(text); x != (api.MirrorReading{}) || e != api.ErrSyntax {
		t.Errorf("%.99q: %v, %d", text, x, e)
	}
}

var readingText = regexp.MustCompile(`\A([^ \n]*)((?: (?:0|-?[1-9][0-9]{0,9})){4})\z`)

func TestP5_9AgainstReference(t *testing.T) {
	random := rand.New(rand.NewPCG(5, 9))
	pieces := []string{" ", "\n", "0", "1", "9", "-", "-0", "a", "\r", "\x80", " 7", "  ", "10000000000", "\t", "m ", "99999", " -5"}
	right, wrong := 0, 0
	for range 40000 {
		number := func() int { return random.IntN(2001) - 1000 }
		text := profile.FormatReading(mirrorReading(names[random.IntN(len(names))], number(), number(), number(), number()))
		for range random.IntN(4) {
			at := random.IntN(len(text) + 1)
			end := min(at+random.IntN(3), len(text))
			text = text[:at] + pieces[random.IntN(len(pieces))] + text[end:]
		}
		x, e := profile.ParseReading(text)
		found := readingText.FindStringSubmatch(text)
		if found == nil {
			wrong++
			if x != (api.MirrorReading{}) || e != api.ErrSyntax {
				t.Fatalf("%q: %v, %d", text, x, e)
			}
			continue
		}
		right++
		var n [4]int
		for i, word := range strings.Fields(found[2]) {
			n[i], _ = strconv.Atoi(word)
		}
		if x != mirrorReading(found[1], n[0], n[1], n[2], n[3]) || e != api.OK {
			t.Fatalf("%q: %v, %d", text, x, e)
		}
	}
	if right < 5000 || wrong < 5000 {
		t.Error("too few of a kind", right, wrong)
	}
}

func TestP5_14ParseUndoesFormat(t *testing.T) {
	random := rand.New(rand.NewPCG(14, 5))
	for range 5000 {
		zones := 2 + random.IntN(39)
		for _, r := range someReadings(random, zones, []int{3, 250000}[random.IntN(2)], 0, true) {
			x := api.MirrorReading{Mirror: names[random.IntN(len(names))], Reading: r}
			text := profile.FormatReading(x)
			if y, e := profile.ParseReading(text); y != x || e != api.OK || profile.FormatReading(y) != text {
				t.Fatal(x, y, e)
			}
		}
	}
}
