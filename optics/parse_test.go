package optics_test

import (
	"math/rand/v2"
	"regexp"
	"strconv"
	"strings"
	"testing"

	"speculum/api"
	"speculum/optics"
)

func checkParse(t *testing.T, text string, line, column int, want api.Errno) {
	t.Helper()
	d, mark, e := optics.Parse(text)
	if !same(d, api.Design{}) || mark != (api.Mark{Line: line, Column: column}) || e != want {
		t.Errorf("%.200q: %v, %v, %d; wanted %d:%d, %d", text, d, mark, e, line, column, want)
	}
}

func TestP2_9Designs(t *testing.T) {
	for text, want := range map[string]api.Design{
		"design a": {Name: "a"},
		"\n \t\n# a comment\n\t design \t a#b\n\n#\n": {Name: "a"},
		"design a\nmirror m radius 4m diameter 400mm # f/5\n": {Name: "a", Surfaces: []api.Surface{
			surface("m", conic(4000000, 0, 1), 400000, 0),
		}},
		"design m\nmirror m apart 3 diameter 5um conic -9/4 radius -7mm#\n\n\tmirror\tradius\tdiameter 1 radius 1": {Name: "m", Surfaces: []api.Surface{
			surface("m", conic(-7000, -9, 4), 5, 3), surface("radius", conic(1, 0, 1), 1, 0),
		}},
		"design mirror\nmirror design radius 10000000um diameter 2m conic 100/99 apart 10m": {Name: "mirror", Surfaces: []api.Surface{
			surface("design", conic(10000000, 100, 99), 2000000, 10000000),
		}},
		"design a\nmirror m radius -10m diameter 2000mm conic 0 apart 0m": {Name: "a", Surfaces: []api.Surface{
			surface("m", conic(-10000000, 0, 1), 2000000, 0),
		}},
	} {
		if d, mark, e := optics.Parse(text); !same(d, want) || mark != (api.Mark{}) || e != api.OK {
			t.Errorf("%q: %v, %v, %d", text, d, mark, e)
		}
	}
}

func TestP2_9Heads(t *testing.T) {
	checkParse(t, "", 1, 1, api.ErrMissing)
	checkParse(t, "\n\n \t\n#design a\n # x\n", 1, 1, api.ErrMissing)
	checkParse(t, strings.Repeat("\n", 60000), 1, 1, api.ErrMissing)
	checkParse(t, strings.Repeat("\n", 60001), 0, 0, api.ErrLarge)
	checkParse(t, "x"+strings.Repeat("#", 60000), 0, 0, api.ErrLarge)
	checkParse(t, "x"+strings.Repeat("#", 59999), 1, 1, api.ErrSyntax)
	if d, mark, e := optics.Parse("design a" + strings.Repeat(" ", 59992)); d.Name != "a" || mark != (api.Mark{}) || e != api.OK {
		t.Error(d, mark, e)
	}
	checkParse(t, "\nmirror m", 2, 1, api.ErrSyntax)
	checkParse(t, " \t designs a", 1, 4, api.ErrSyntax)
	checkParse(t, "Design a", 1, 1, api.ErrSyntax)
	checkParse(t, "design", 1, 7, api.ErrMissing)
	checkParse(t, "\n\n\tdesign \t# a", 3, 8, api.ErrMissing)
	checkParse(t, "design#a", 1, 7, api.ErrMissing)
	checkParse(t, "design 1 2", 1, 8, api.ErrName)
	checkParse(t, "design a\r\n", 1, 8, api.ErrName)
	checkParse(t, "design abcdefghijklm", 1, 8, api.ErrName)
	checkParse(t, "design a  b c", 1, 11, api.ErrSyntax)
	checkParse(t, "design a\ndesign b", 2, 1, api.ErrSyntax)
	checkParse(t, "design a\nmirrors m", 2, 1, api.ErrSyntax)
	checkParse(t, "design a\n\u00e4 m", 2, 1, api.ErrSyntax)
}

func TestP2_9Mirrors(t *testing.T) {
	const first = "design a\nmirror m radius 5 diameter 4\n"
	checkParse(t, first+"mirror", 3, 7, api.ErrMissing)
	checkParse(t, first+" mirror 7 radius", 3, 9, api.ErrName)
	checkParse(t, first+"mirror m speed", 3, 8, api.ErrExists)
	checkParse(t, first+"mirror n", 3, 9, api.ErrMissing)
	checkParse(t, first+"mirror n speed", 3, 10, api.ErrSyntax)
	checkParse(t, first+"mirror n Radius 5", 3, 10, api.ErrSyntax)
	checkParse(t, first+"mirror n radius", 3, 16, api.ErrMissing)
	checkParse(t, first+"mirror n radius # 5", 3, 16, api.ErrMissing)
	checkParse(t, first+"mirror n radius 5 radius", 3, 19, api.ErrExists)
	checkParse(t, first+"mirror n radius 5 radius x", 3, 19, api.ErrExists)
	checkParse(t, first+"mirror n radius 5 conic 0 apart 1 conic 0", 3, 35, api.ErrExists)
	checkParse(t, first+"mirror n radius x radius 5", 3, 17, api.ErrSyntax)
	checkParse(t, first+"mirror n radius 5", 3, 18, api.ErrMissing)
	checkParse(t, first+"mirror n diameter 5 ", 3, 20, api.ErrMissing)
	checkParse(t, first+"mirror n conic 0 apart 5\t#", 3, 25, api.ErrMissing)
	checkParse(t, first+"mirror n diameter 5 mm", 3, 21, api.ErrSyntax)
	checkParse(t, first+"mirror n radius 5 diameter 4 # x\n\nmirror m", 5, 8, api.ErrExists)
	checkParse(t, "design a\nmirror m radius 4km", 2, 17, api.ErrSyntax)
	checkParse(t, "design a\nmirror m radius 5 # diameter 3", 2, 18, api.ErrMissing)
	checkParse(t, "design a\nmirror m radius#5 diameter 3", 2, 16, api.ErrMissing)
	checkParse(t, "design a\nmirror \u00e4 radius 5", 2, 8, api.ErrName)
	checkParse(t, "design a\nmirror m \u00e4\u00e4 5", 2, 10, api.ErrSyntax)
	checkParse(t, "design a\nmirror m radius \u00e4\u00e4 5 x", 2, 17, api.ErrSyntax)
	// an error of an earlier line is told before one of a later line
	checkParse(t, "design a\nmirror m radius 5 diameter 11\nx", 2, 1, api.ErrNone)
	checkParse(t, "design a\nmirror m radius 5\nx", 2, 18, api.ErrMissing)
}

func TestP2_9Surfaces(t *testing.T) {
	checkParse(t, "design a\n mirror m radius 5 diameter 11", 2, 2, api.ErrNone)
	checkParse(t, "design a\nmirror m radius 5 diameter 4 conic 2/4", 2, 1, api.ErrForm)
	checkParse(t, "design a\nmirror m radius 5 diameter 4 conic 0/2", 2, 1, api.ErrForm)
	checkParse(t, "design a\nmirror m radius 5 diameter 4 conic 99999999/99999999", 2, 1, api.ErrForm)
	checkParse(t, "design a\nmirror m radius 0 diameter 4 conic 2/4", 2, 1, api.ErrRange)
	checkParse(t, "design a\nmirror m radius 10000001 diameter 4", 2, 1, api.ErrRange)
	checkParse(t, "design a\nmirror m radius -99999999m diameter 4", 2, 1, api.ErrRange)
	checkParse(t, "design a\nmirror m radius 5 diameter 4 conic 101", 2, 1, api.ErrRange)
	checkParse(t, "design a\nmirror m radius 5 diameter 4 conic -1/101", 2, 1, api.ErrRange)
	checkParse(t, "design a\nmirror m radius 5 diameter 0", 2, 1, api.ErrRange)
	checkParse(t, "design a\nmirror m radius 5 diameter -4", 2, 1, api.ErrRange)
	checkParse(t, "design a\nmirror m radius 5 diameter 2000001", 2, 1, api.ErrRange)
	checkParse(t, "design a\nmirror m radius 5 diameter 99999999m apart 99999999m", 2, 1, api.ErrRange)
	checkParse(t, "design a\nmirror m radius 5 diameter 4 apart -1", 2, 1, api.ErrRange)
	checkParse(t, "design a\nmirror m radius 5 diameter 11 apart 11m", 2, 1, api.ErrRange)
}

func TestP2_9TooManyMirrors(t *testing.T) {
	text, e := optics.Print(manySurfaces(12))
	if e != api.OK {
		t.Fatal(e)
	}
	checkParse(t, text+"\n  mirror", 15, 3, api.ErrLarge)
	checkParse(t, text+"mirror m0", 14, 1, api.ErrLarge)
	checkParse(t, text+"mirrors", 14, 1, api.ErrSyntax)
	if d, mark, e := optics.Parse(text + "\n# mirror\n"); len(d.Surfaces) != 12 || mark != (api.Mark{}) || e != api.OK {
		t.Error(d, mark, e)
	}
}

func TestP2_9Values(t *testing.T) {
	numbers := map[string]int{"0": 0, "7": 7, "-7": -7, "10": 10, "12345678": 12345678, "-12345678": -12345678, "99999999": 99999999}
	bad := []string{"", "-", "00", "01", "-0", "-00", "-01", "+1", "123456789", "-123456789", "1.5", "1e3", "0x1", "--1", "1-", "1/", "/2", "\u0663", "a", "1_0"}
	const begin = "design a\nmirror m radius "
	for text, n := range numbers {
		for unit, by := range map[string]int{"": 1, "um": 1, "mm": 1000, "m": 1000000} {
			size := n * by
			if size != 0 && -10000000 <= size && size <= 10000000 {
				d, mark, e := optics.Parse(begin + text + unit + " diameter 1")
				if e != api.OK || mark != (api.Mark{}) || d.Surfaces[0].Conic.Radius != size {
					t.Error(text, unit, d, mark, e)
				}
			} else {
				checkParse(t, begin+text+unit+" diameter 1", 2, 1, api.ErrRange)
			}
		}
		for _, unit := range []string{"km", "M", "Um", "mmm", "u", "umm", "m-", "/2", "cm"} {
			checkParse(t, begin+text+unit, 2, 17, api.ErrSyntax)
		}
		checkParse(t, "design a\nmirror m conic "+text+"m", 2, 16, api.ErrSyntax)
		checkParse(t, "design a\nmirror m conic "+text+"/1", 2, 16, api.ErrSyntax)
		checkParse(t, "design a\nmirror m conic "+text+"/0", 2, 16, api.ErrSyntax)
		checkParse(t, "design a\nmirror m conic "+text+"/-2", 2, 16, api.ErrSyntax)
		checkParse(t, "design a\nmirror m conic "+text+"/2/3", 2, 16, api.ErrSyntax)
		checkParse(t, "design a\nmirror m conic "+text+"//3", 2, 16, api.ErrSyntax)
	}
	for _, text := range bad[1:] {
		for _, unit := range []string{"", "um", "mm", "m"} {
			checkParse(t, begin+text+unit, 2, 17, api.ErrSyntax)
		}
	}
	for _, text := range bad {
		checkParse(t, "design a\nmirror m conic "+text+"/3", 2, 16, api.ErrSyntax)
		checkParse(t, "design a\nmirror m conic 1/"+text, 2, 16, api.ErrSyntax)
	}
	for _, key := range []string{"diameter", "apart"} {
		checkParse(t, "design a\nmirror m "+key+" 1/2", 2, 11+len(key), api.ErrSyntax)
		checkParse(t, "design a\nmirror m "+key+" 1um2", 2, 11+len(key), api.ErrSyntax)
	}
}

// The forms of the chapter, for the reference parser.
var (
	wordForm     = regexp.MustCompile(`[^ \t]+`)
	nameForm     = regexp.MustCompile(`^[A-Za-z][A-Za-z0-9-]{0,11}$`)
	lengthForm   = regexp.MustCompile(`^(0|-?[1-9][0-9]{0,7})(um|mm|m|)$`)
	constantForm = regexp.MustCompile(`^(0|-?[1-9][0-9]{0,7})(?:/([2-9]|[1-9][0-9]{1,7}))?$`)
)

// reference parses a text with regular expressions, and checks its surfaces with CheckDesign.
func reference(text string) (d api.Design, mark api.Mark, e api.Errno) {
	isFirst := true
	for i, line := range strings.Split(text, "\n") {
		line, _, _ = strings.Cut(line, "#")
		var l []string
		var at []int
		for _, x := range wordForm.FindAllStringIndex(line, -1) {
			l, at = append(l, line[x[0]:x[1]]), append(at, x[0]+1)
		}
		if len(l) == 0 {
			continue
		}
		end := at[len(at)-1] + len(l[len(l)-1])
		l, at = append(l, "\n"), append(at, end) // the end
		column, e := 0, api.OK
		if isFirst {
			isFirst = false
			d.Name = l[1]
			column, e = referenceHead(l, at)
		} else {
			column, e = referenceMirror(&d, l, at)
		}
		if e != api.OK {
			return api.Design{}, api.Mark{Line: i + 1, Column: column}, e
		}
	}
	if isFirst {
		return api.Design{}, api.Mark{Line: 1, Column: 1}, api.ErrMissing
	}
	return d, api.Mark{}, api.OK
}

func referenceHead(l []string, at []int) (int, api.Errno) {
	switch {
	case l[0] != "design":
		return at[0], api.ErrSyntax
	case l[1] == "\n":
		return at[1], api.ErrMissing
	case !nameForm.MatchString(l[1]):
		return at[1], api.ErrName
	case l[2] != "\n":
		return at[2], api.ErrSyntax
	}
	return 0, api.OK
}

func referenceMirror(d *api.Design, l []string, at []int) (int, api.Errno) {
	switch {
	case l[0] != "mirror":
		return at[0], api.ErrSyntax
	case len(d.Surfaces) == 12:
		return at[0], api.ErrLarge
	case l[1] == "\n":
		return at[1], api.ErrMissing
	case !nameForm.MatchString(l[1]):
		return at[1], api.ErrName
	}
	for _, s := range d.Surfaces {
		if s.Name == l[1] {
			return at[1], api.ErrExists
		}
	}
	values := map[string]string{}
	for i := 2; l[i] != "\n"; i += 2 {
		form := lengthForm
		if l[i] == "conic" {
			form = constantForm
		}
		_, had := values[l[i]]
		switch {
		case l[i] != "radius" && l[i] != "conic" && l[i] != "diameter" && l[i] != "apart":
			return at[i], api.ErrSyntax
		case had:
			return at[i], api.ErrExists
		case l[i+1] == "\n":
			return at[i+1], api.ErrMissing
		case !form.MatchString(l[i+1]):
			return at[i+1], api.ErrSyntax
		}
		values[l[i]] = l[i+1]
	}
	if values["radius"] == "" || values["diameter"] == "" {
		return at[len(at)-1], api.ErrMissing
	}
	d.Surfaces = append(d.Surfaces, referenceSurface(l[1], values))
	_, e := optics.CheckDesign(*d)
	return at[0], e
}

func referenceSurface(name string, values map[string]string) api.Surface {
	length := func(key string) int {
		if values[key] == "" {
			return 0
		}
		parts := lengthForm.FindStringSubmatch(values[key])
		n, _ := strconv.Atoi(parts[1])
		return n * map[string]int{"": 1, "um": 1, "mm": 1000, "m": 1000000}[parts[2]]
	}
	k := whole(0)
	if values["conic"] != "" {
		parts := constantForm.FindStringSubmatch(values["conic"])
		k.Num, _ = strconv.Atoi(parts[1])
		if parts[2] != "" {
			k.Den, _ = strconv.Atoi(parts[2])
		}
	}
	return surface(name, api.Conic{Radius: length("radius"), K: k}, length("diameter"), length("apart"))
}

// someText is a design's text. Its values are valid ones or, if it is no easy one, at the limits and beyond.
func someText(random *rand.Rand) string {
	pick := func(l ...string) string { return l[random.IntN(len(l))] }
	gap := func() string { return pick(" ", " ", " ", "  ", "\t", " \t ") }
	var text strings.Builder
	text.WriteString(pick("", "", "\n", "# x\n", " "))
	text.WriteString("design" + gap() + pick("a", "b-1", "abcdefghijkl") + pick("", " ", "# c") + "\n")
	count, isEasy := random.IntN(12), random.IntN(3) == 0
	if isEasy {
		count += 3
	}
	for i := range count {
		text.WriteString(pick("", "", "\n", " ") + "mirror" + gap() + "m" + strconv.Itoa(i))
		pairs := []string{
			"radius" + gap() + pick("5m", "-7", "300mm", "10m", "100000um", "99999999"),
			"diameter" + gap() + pick("1", "12", "150mm", "200000", "2m", "1um"),
		}
		if isEasy {
			pairs = []string{"radius" + gap() + pick("5m", "-9m", "300mm"), "diameter" + gap() + pick("1", "12", "200mm")}
		} else if random.IntN(2) == 0 {
			pairs = append(pairs, "conic"+gap()+pick("0", "-1", "-9/4", "1/2", "2/4", "7", "100/99"))
		}
		if random.IntN(2) == 0 {
			pairs = append(pairs, "apart"+gap()+pick("0", "12", "1m", "3mm", "-1"))
		}
		random.Shuffle(len(pairs), func(i, j int) { pairs[i], pairs[j] = pairs[j], pairs[i] })
		for _, p := range pairs {
			text.WriteString(gap() + p)
		}
		text.WriteString(pick("", "", " ", "# f/5") + "\n")
	}
	return text.String()
}

// spoilt is a text with a few bytes or pieces changed.
func spoilt(random *rand.Rand, text string) string {
	pieces := []string{" ", "\t", "\n", "#", "m", "u", "0", "1", "9", "-", "/", "a", "\r", "\x80", "mirror", "design", " radius 5", " diameter 2 ", " conic ", " apart", "mm", "-0"}
	for range random.IntN(4) {
		at := random.IntN(len(text) + 1)
		end := min(at+random.IntN(3), len(text))
		text = text[:at] + pieces[random.IntN(len(pieces))] + text[end:]
	}
	return text
}

func TestP2_9AgainstReference(t *testing.T) {
	random := rand.New(rand.NewPCG(9, 2))
	counts := map[api.Errno]int{}
	for range 40000 {
		text := spoilt(random, someText(random))
		d, mark, e := optics.Parse(text)
		want, mark2, e2 := reference(text)
		if !same(d, want) || mark != mark2 || e != e2 {
			t.Fatalf("%q: %v, %v, %d; wanted %v, %v, %d", text, d, mark, e, want, mark2, e2)
		}
		counts[e]++
	}
	for _, e := range []api.Errno{api.OK, api.ErrSyntax, api.ErrLarge, api.ErrMissing, api.ErrName, api.ErrExists, api.ErrRange, api.ErrForm, api.ErrNone} {
		if counts[e] < 50 {
			t.Error("too few of a kind", e, counts)
		}
	}
}
