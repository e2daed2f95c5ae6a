package optics_test

import (
	"math"
	"slices"
	"strconv"
	"strings"
	"testing"

	"speculum/api"
	"speculum/optics"
)

func surface(name string, c api.Conic, diameter, apart int) api.Surface {
	return api.Surface{Name: name, Conic: c, Diameter: diameter, Apart: apart}
}

// cassegrain is a valid design.
func cassegrain() api.Design {
	return api.Design{Name: "cass-1", Surfaces: []api.Surface{
		surface("primary", conic(4000000, -1, 1), 400000, 1500000),
		surface("M2", conic(-1500000, -9, 4), 100000, 1700000),
	}}
}

// same tells whether two designs are equal; no list is an empty one.
func same(a, b api.Design) bool {
	return a.Name == b.Name && slices.Equal(a.Surfaces, b.Surfaces)
}

// manySurfaces is a design of as many surfaces.
func manySurfaces(n int) api.Design {
	d := api.Design{Name: "many"}
	for i := range n {
		d.Surfaces = append(d.Surfaces, surface("m"+strconv.Itoa(i), conic(100-i, 0, 1), 10, i))
	}
	return d
}

var names = []string{"a", "z", "A", "Z", "azAZ-09", "a-", "abcdefghijkl", "A1-2b", "x999"}

var badNames = []string{"", "1", "-a", "abcdefghijklm", "a b", "a_b", "a\n", "\u00e4", "a\u00e4", "a.", "a#", " a", "a\x00", "[", "a{", "a/", "a:", "a@", "a`"}

func TestP2_8Names(t *testing.T) {
	for _, name := range names {
		d := api.Design{Name: name, Surfaces: []api.Surface{surface(name, conic(5, 0, 1), 2, 0)}}
		if n, e := optics.CheckDesign(d); n != 0 || e != api.OK {
			t.Error(name, n, e)
		}
	}
	for _, name := range badNames {
		d := cassegrain()
		d.Name = name
		if n, e := optics.CheckDesign(d); n != 0 || e != api.ErrName {
			t.Error(name, n, e)
		}
		d = cassegrain()
		d.Surfaces[1].Name = name
		if n, e := optics.CheckDesign(d); n != 1 || e != api.ErrName {
			t.Error(name, n, e)
		}
	}
}

// designFaults are changes of the second surface of a design, and its error.
var designFaults = []struct {
	s api.Surface
	e api.Errno
}{
	{surface("1", conic(0, 2, 4), 0, -1), api.ErrName},
	{surface("primary", conic(0, 2, 4), 0, -1), api.ErrExists},
	{surface("m", conic(0, 2, 4), 0, -1), api.ErrRange},
	{surface("m", conic(5, 2, 4), 0, -1), api.ErrForm},
	{surface("m", conic(5, 101, 1), 0, -1), api.ErrRange},
	{surface("m", conic(10000001, 0, 1), 1, 1), api.ErrRange},
	{surface("m", conic(5, 0, 1), 0, 1), api.ErrRange},
	{surface("m", conic(5, 0, 1), 2000001, 1), api.ErrRange},
	{surface("m", conic(5, 0, 1), math.MinInt, 1), api.ErrRange},
	{surface("m", conic(5, 0, 1), math.MaxInt, 1), api.ErrRange},
	{surface("m", conic(5, 0, 1), 11, -1), api.ErrRange},
	{surface("m", conic(5, 0, 1), 11, 10000001), api.ErrRange},
	{surface("m", conic(5, 0, 1), 1, math.MinInt), api.ErrRange},
	{surface("m", conic(5, 0, 1), 11, 1), api.ErrNone},
	{surface("m", conic(-5, 0, 1), 11, 1), api.ErrNone},
	{surface("m", conic(5, 0, 1), 10, 1), api.OK},
	{surface("m", conic(-5, 0, 1), 9, 0), api.OK},
	{surface("m", conic(5, 1, 1), 7, 0), api.ErrNone},
	{surface("m", conic(5, 1, 1), 6, 0), api.OK},
	{surface("m", conic(1, -1, 1), 2000000, 10000000), api.OK},
	{surface("m", conic(1, 100, 1), 1, 0), api.ErrNone},
}

func TestP2_8CheckDesign(t *testing.T) {
	for _, x := range designFaults {
		d := cassegrain()
		d.Surfaces[1] = x.s
		want := 0
		if x.e != api.OK {
			want = 1
		}
		if n, e := optics.CheckDesign(d); n != want || e != x.e {
			t.Error(x.s, n, e, x.e)
		}
		if x.e == api.ErrExists {
			continue
		}
		if n, e := optics.CheckDesign(api.Design{Name: "a", Surfaces: []api.Surface{x.s, x.s}}); x.e != api.OK && (n != 0 || e != x.e) {
			t.Error("first", x.s, n, e, x.e)
		}
	}
	for d, want := range map[*api.Design]api.Errno{
		{}: api.ErrName, {Name: "a"}: api.OK, {Name: "1", Surfaces: make([]api.Surface, 13)}: api.ErrName,
		{Name: "a", Surfaces: make([]api.Surface, 13)}: api.ErrLarge, {Name: "a", Surfaces: make([]api.Surface, 12)}: api.ErrName,
	} {
		if n, e := optics.CheckDesign(*d); n != 0 || e != want {
			t.Error(d, n, e)
		}
	}
	if n, e := optics.CheckDesign(manySurfaces(12)); n != 0 || e != api.OK {
		t.Error(n, e)
	}
	if n, e := optics.CheckDesign(manySurfaces(13)); n != 0 || e != api.ErrLarge {
		t.Error(n, e)
	}
	last := manySurfaces(12)
	last.Surfaces[11].Name = "m7"
	if n, e := optics.CheckDesign(last); n != 11 || e != api.ErrExists {
		t.Error(n, e)
	}
	named := cassegrain()
	named.Name = "primary"
	if n, e := optics.CheckDesign(named); n != 0 || e != api.OK {
		t.Error("the design may have the name of a surface", n, e)
	}
}

func TestP2_8ElementsOf(t *testing.T) {
	want := []api.Element{mirror(4000000), space(1500000), mirror(-1500000)}
	d := cassegrain()
	if l, e := optics.ElementsOf(d); !slices.Equal(l, want) || e != api.OK {
		t.Error(l, e)
	}
	if !same(d, cassegrain()) {
		t.Error("written into the argument", d)
	}
	if l, e := optics.ElementsOf(api.Design{Name: "a"}); len(l) != 0 || e != api.OK {
		t.Error(l, e)
	}
	l, e := optics.ElementsOf(manySurfaces(12)) // more than a matrix may be made of
	if len(l) != 23 || e != api.OK || l[21] != space(10) || l[22] != mirror(89) {
		t.Error(l, e)
	}
}

func TestP2_8ErrorsOfElementsOfAndPrint(t *testing.T) {
	for _, x := range designFaults {
		d := cassegrain()
		d.Surfaces[1] = x.s
		if l, e := optics.ElementsOf(d); e != x.e || e != api.OK && l != nil {
			t.Error(x.s, l, e)
		}
		if text, e := optics.Print(d); e != x.e || e != api.OK && text != "" {
			t.Error(x.s, text, e)
		}
	}
	for _, d := range []api.Design{{}, manySurfaces(13)} {
		_, want := optics.CheckDesign(d)
		if l, e := optics.ElementsOf(d); l != nil || e != want {
			t.Error(l, e)
		}
		if text, e := optics.Print(d); text != "" || e != want {
			t.Error(text, e)
		}
	}
}

func TestP2_8Print(t *testing.T) {
	want := "design cass-1\n" +
		"mirror primary radius 4000000 conic -1 diameter 400000 apart 1500000\n" +
		"mirror M2 radius -1500000 conic -9/4 diameter 100000 apart 1700000\n"
	d := cassegrain()
	if text, e := optics.Print(d); text != want || e != api.OK {
		t.Error(text, e)
	}
	if !same(d, cassegrain()) {
		t.Error("written into the argument", d)
	}
	if text, e := optics.Print(api.Design{Name: "a"}); text != "design a\n" || e != api.OK {
		t.Error(text, e)
	}
	d = api.Design{Name: "a", Surfaces: []api.Surface{surface("m", conic(7, 0, 1), 1, 0)}}
	if text, e := optics.Print(d); text != "design a\nmirror m radius 7 conic 0 diameter 1 apart 0\n" || e != api.OK {
		t.Error(text, e)
	}
}

func TestP2_12ParseUndoesPrint(t *testing.T) {
	designs := []api.Design{cassegrain(), {Name: "a"}, manySurfaces(12), {Name: "abcdefghijkl"}}
	for i, c := range conics() {
		last := &designs[len(designs)-1]
		if len(last.Surfaces) == 12 {
			designs = append(designs, api.Design{Name: "d" + strconv.Itoa(i)})
			last = &designs[len(designs)-1]
		}
		edge, _ := optics.Edge(c)
		if edge > 0 {
			name := strings.Repeat("x", 12-len(strconv.Itoa(i))) + strconv.Itoa(i)
			last.Surfaces = append(last.Surfaces, surface(name, c, 2*edge, 10000000-i))
		}
	}
	for _, d := range designs {
		text, e := optics.Print(d)
		if e != api.OK {
			t.Fatal(d, e)
		}
		back, mark, e := optics.Parse(text)
		if !same(d, back) || mark != (api.Mark{}) || e != api.OK {
			t.Error(text, back, mark, e)
		}
		if again, e := optics.Print(back); again != text || e != api.OK {
			t.Error(text, again, e)
		}
	}
	if len(designs) < 20 {
		t.Error("too few", len(designs))
	}
}
