package support_test

import (
	"math/rand/v2"
	"regexp"
	"slices"
	"strconv"
	"strings"
	"testing"

	"speculum/api"
	"speculum/support"
)

// checkParse checks that a text is refused.
func checkParse(t *testing.T, text string, line int, want api.Errno) {
	t.Helper()
	if l, n, e := support.Parse(text); l != nil || n != line || e != want {
		t.Errorf("%.200q: %v, %d, %d; wanted %d, %d", text, l, n, e, line, want)
	}
}

// checkText checks that rockers have a text, and the other way round.
func checkText(t *testing.T, text string, l []api.Rocker) {
	t.Helper()
	if s, e := support.Print(l); s != text || e != api.OK {
		t.Errorf("%v: %.200q, %d", l, s, e)
	}
	if m, n, e := support.Parse(text); !slices.Equal(m, l) || n != 0 || e != api.OK {
		t.Errorf("%.200q: %v, %d, %d", text, m, n, e)
	}
}

const chapterText = "rocker top a b 1 2\nrocker a p q 1 1\nrocker b r s 3 1\n"

func TestP7_9Texts(t *testing.T) {
	checkText(t, chapterText, chapterTree())
	checkText(t, "rocker a b c 10000 1\n", []api.Rocker{rocker("a", "b", "c", 10000, 1)})
	checkText(t, "rocker rocker Rocker ROCKER 7 10000\n", []api.Rocker{rocker("rocker", "Rocker", "ROCKER", 7, 10000)})
	checkText(t, "rocker b c d 1 1\nrocker a b e 1 1\n", []api.Rocker{rocker("b", "c", "d", 1, 1), rocker("a", "b", "e", 1, 1)})
	for i, name := range names {
		left, right := names[(i+1)%len(names)], names[(i+2)%len(names)]
		checkText(t, "rocker "+name+" "+left+" "+right+" 12 345\n", []api.Rocker{rocker(name, left, right, 12, 345)})
	}
	text := ""
	for i := range 40 {
		next := "r" + strconv.Itoa(i+1)
		if i == 39 {
			next = "last"
		}
		text += "rocker r" + strconv.Itoa(i) + " " + next + " p" + strconv.Itoa(i) + " 1 1\n"
	}
	checkText(t, text, chain(40, true))
}

// TestP7_9PrintFaults checks that Print has the errors of the tree.
func TestP7_9PrintFaults(t *testing.T) {
	checkFaults(t, validMount, func(t *testing.T, x mount) api.Errno {
		t.Helper()
		s, e := support.Print(x.l)
		none(t, e, s == "")
		return e
	}, treeFaults())
}

func TestP7_9WrongLines(t *testing.T) {
	wrong := []string{
		"", " ", "rocker", "rocker ", "rocker a", "rocker a b", "rocker a b c", "rocker a b c 1", "rocker a b c 1 ", "rocker a b c 1  2", "rocker  a b c 1 2", "rocker a  b c 1 2", "rocker a b c  1 2",
		" rocker a b c 1 2", "rocker a b c 1 2 ", "rocker a b c 1 2 3", "a b c 1 2", "Rocker a b c 1 2", "rockers a b c 1 2", "rocke a b c 1 2", "xrocker a b c 1 2", "rocker\ta b c 1 2", "rocker a\tb c 1 2",
		"rocker a b c 1\t2", "rocker a b c 1 2\r", "rocker a b c 1 2\x00", "rocker,a,b,c,1,2", "rocker a b c 1,2", "rocker 1 2 a b c", "rocker a b 1 c 2", "rocker a b c x y", "rocker a b 1 2", "rocker    1", "rocker a b c 1 2 #",
	}
	for _, number := range []string{
		"", "x", "01", "00", "-0", "-01", "+1", "-", "--1", "1.0", "1.", "10000000", "-10000000", "09999999", "99999999999999999999", "-99999999999999999999", "0x1", "1_0", "1e0", "\u0661", "1\x00", "\x801", "1-", "a",
	} {
		wrong = append(wrong, "rocker a b c "+number+" 2", "rocker a b c 1 "+number)
	}
	for _, line := range wrong {
		checkParse(t, line+"\n", 1, api.ErrSyntax)
		checkParse(t, line+"\nrocker a b c 1 2\n", 1, api.ErrSyntax)
		checkParse(t, "rocker a b c 1 2\n"+line+"\n", 2, api.ErrSyntax)
		checkParse(t, chapterText+line+"\nrocker a b c 1 2\nx", 4, api.ErrSyntax)
	}
	checkParse(t, "\n", 1, api.ErrSyntax)
	checkParse(t, "\n"+chapterText, 1, api.ErrSyntax)
	checkParse(t, chapterText+"\n", 4, api.ErrSyntax)
	checkParse(t, chapterText[:len(chapterText)-1], 3, api.ErrSyntax)
	checkParse(t, chapterText+" ", 4, api.ErrSyntax)
	checkParse(t, strings.ReplaceAll(chapterText, "\n", "\r\n"), 1, api.ErrSyntax)
	checkParse(t, "rocker a b c 1 2", 1, api.ErrSyntax)
	checkParse(t, "rocker a b c 1 2\n\nrocker b d e 1 2\n", 2, api.ErrSyntax)
}

// TestP7_9Errors checks that what lines say is told behind the form of all of them.
func TestP7_9Errors(t *testing.T) {
	checkParse(t, "", 0, api.ErrShape)
	checkParse(t, "rocker a b c 0 1\n", 0, api.ErrRange)
	checkParse(t, "rocker a b c 1 10001\n", 0, api.ErrRange)
	checkParse(t, "rocker a b c 9999999 -9999999\n", 0, api.ErrRange)
	checkParse(t, "rocker a b c -1 0\n", 0, api.ErrRange)
	checkParse(t, "rocker    1 1\n", 0, api.ErrName) // three empty names
	checkParse(t, "rocker a  c 1 1\n", 0, api.ErrName)
	checkParse(t, "rocker a b  1 1\n", 0, api.ErrName)
	checkParse(t, "rocker  b c 1 1\n", 0, api.ErrName)
	checkParse(t, "rocker a b 1 1 1\n", 0, api.ErrName)
	checkParse(t, "rocker a b c\r 1 1\n", 0, api.ErrName)
	checkParse(t, "rocker a b\t c 0 1\n", 0, api.ErrName)
	checkParse(t, "rocker \xff b c 1 1\n", 0, api.ErrName)
	checkParse(t, "rocker abcdefghijklm b c 1 1\n", 0, api.ErrName)
	checkParse(t, "rocker a b c 1 1\nrocker a d e 1 1\n", 0, api.ErrExists)
	checkParse(t, "rocker a b b 1 1\n", 0, api.ErrClash)
	checkParse(t, "rocker a a b 1 1\n", 0, api.ErrCycle)
	checkParse(t, "rocker a b c 1 1\nrocker d e f 1 1\n", 0, api.ErrOpen)
	checkParse(t, "rocker a b b 1 1\nrocker d e f 0 1\nx\n", 3, api.ErrSyntax)
	checkParse(t, "rocker a b c 0 1\nrocker b d e 1 1", 2, api.ErrSyntax)
	checkParse(t, strings.Repeat("rocker a b c 1 1\n", 41), 0, api.ErrLarge)
	checkParse(t, strings.Repeat("rocker a b c 1 1\n", 41)+"x", 42, api.ErrSyntax)
}

func TestP7_9LongTexts(t *testing.T) {
	checkParse(t, strings.Repeat("x", 60001), 0, api.ErrLarge)
	checkParse(t, strings.Repeat("\n", 60001), 0, api.ErrLarge)
	checkParse(t, strings.Repeat("x", 60000), 1, api.ErrSyntax)
	checkParse(t, strings.Repeat("\n", 60000), 1, api.ErrSyntax)
	// 17 bytes in each line, 3529 * 17 + 7
	checkParse(t, strings.Repeat("rocker a b c 1 1\n", 3529)+"rocker ", 3530, api.ErrSyntax)
	checkParse(t, strings.Repeat("rocker a b c 1 1\n", 3529)+"rocker a", 0, api.ErrLarge)
	checkParse(t, strings.Repeat("rocker a b c 1 1\n", 3529), 0, api.ErrLarge) // too many rockers
	checkParse(t, "rocker "+strings.Repeat("a", 59984)+" b c 1 1\n", 0, api.ErrName)
	checkParse(t, "rocker "+strings.Repeat("a", 59985)+" b c 1 1\n", 0, api.ErrLarge)
	checkParse(t, "rocker a b c 1 "+strings.Repeat("1", 59984)+"\n", 1, api.ErrSyntax)
	checkParse(t, "rocker a b c 1 "+strings.Repeat(" ", 59984)+"\n", 1, api.ErrSyntax)
}

var lineForm = regexp.MustCompile(`\Arocker ([^ \n]*) ([^ \n]*) ([^ \n]*) (0|-?[1-9][0-9]{0,6}) (0|-?[1-9][0-9]{0,6})\n\z`)

// reference reads a text by the form of its lines.
func reference(text string) ([]api.Rocker, int, api.Errno) {
	var l []api.Rocker
	lines := strings.SplitAfter(text, "\n")
	if last := len(lines) - 1; lines[last] == "" {
		lines = lines[:last]
	}
	for i, line := range lines {
		found := lineForm.FindStringSubmatch(line)
		if found == nil {
			return nil, i + 1, api.ErrSyntax
		}
		left, _ := strconv.Atoi(found[4])
		right, _ := strconv.Atoi(found[5])
		l = append(l, rocker(found[1], found[2], found[3], left, right))
	}
	if e := support.CheckTree(l); e != api.OK {
		return nil, 0, e
	}
	return l, 0, api.OK
}

// spoilt is a text with a few bytes or pieces changed, or one of its words.
func spoilt(random *rand.Rand, text string) string {
	if random.IntN(2) == 0 {
		words := []string{"0", "1", "-3", "10000", "10001", "9999999", "10000000", "-0", "rocker", "x0", "x1", "x2", "x3", "1a", "\xe4"}
		old := strings.Fields(text)
		return strings.Replace(text, old[random.IntN(len(old))], words[random.IntN(len(words))], 1)
	}
	pieces := []string{" ", "\n", "0", "1", "9", "-", "a", "\r", "\x80", "rocker y z w 1 2\n", "rocker x0 y z 1 1\n", "rocker", " 7", "\n\n", "  "}
	for range random.IntN(4) {
		at := random.IntN(len(text) + 1)
		end := min(at+random.IntN(3), len(text))
		text = text[:at] + pieces[random.IntN(len(pieces))] + text[end:]
	}
	return text
}

func TestP7_9AgainstReference(t *testing.T) {
	random := rand.New(rand.NewPCG(7, 9))
	counts := map[api.Errno]int{}
	for range 30000 {
		text, _ := support.Print(someTree(random, 1+random.IntN(4), 10000))
		text = spoilt(random, text)
		l, n, e := support.Parse(text)
		l2, n2, e2 := reference(text)
		if !slices.Equal(l, l2) || n != n2 || e != e2 {
			t.Fatalf("%q: %v, %d, %d; wanted %v, %d, %d", text, l, n, e, l2, n2, e2)
		}
		counts[e]++
	}
	for _, e := range []api.Errno{api.OK, api.ErrSyntax, api.ErrName, api.ErrExists, api.ErrRange, api.ErrClash, api.ErrCycle, api.ErrOpen} {
		if counts[e] < 100 {
			t.Error("too few of a kind", e, counts)
		}
	}
}

func TestP7_12ParseUndoesPrint(t *testing.T) {
	random := rand.New(rand.NewPCG(7, 24))
	for round := range 4000 {
		l := someTree(random, 1+round%40, 10000)
		text, e := support.Print(l)
		m, n, e2 := support.Parse(text)
		if !slices.Equal(m, l) || n != 0 || agree(t, e, e2) != api.OK {
			t.Fatal(l, m, n)
		}
		if again, e := support.Print(m); again != text || e != api.OK {
			t.Fatalf("%q, %q, %d", text, again, e)
		}
	}
}
