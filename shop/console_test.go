package shop_test

import (
	"math/rand/v2"
	"slices"
	"strconv"
	"strings"
	"testing"

	"speculum/api"
	"speculum/shop"
)

func TestP10_7Cards(t *testing.T) {
	x := fullShop()
	sum := func(before int, text string) string { return strconv.Itoa(sumBy(before, text)) }
	first := sumBy(7, "m1 0 1 5 9\nm1 1 eve 1\n")
	m1 := "order m1 ann 30 50000 1000\nblank b\nsessions 2 6\nreadings 2\ncoatings 2\nsigned 1 eve 1 " + strconv.Itoa(first) + "\nsigned 2 sam 2 " + sum(first, "m1 1 2 -7 8\nm1 2 sam 2\n") + "\ndelivered 40 40000\n"
	m2 := "order m2 bob 60 70000 0\nblank c\nsessions 1 3\nreadings 1\ncoatings 1\nsigned 1 eve 1 " + sum(7, "m2 1 2 -20 0\nm2 1 eve 1\n") + "\n"
	for _, c := range []struct {
		facts  []string
		mirror string
		want   string
	}{
		{entryBase(), "m1", m1},
		{entryBase(), "m2", m2},
		{append(entryBase(), "deliver m2 100000"), "m2", m2 + "delivered 100000 70000\n"},
		{append(entryBase(), "reading m2 0 1 0 0", "reading m2 0 1 0 0"), "m2", strings.Replace(m2, "readings 1", "readings 3", 1)},
		{entryBase(), "m3", "order m3 kim 5 6 7\nsessions 1 1\nreadings 0\ncoatings 0\n"},
		{entryBase(), "m5", "order m5 joe 1 1 1\nsessions 0 0\nreadings 0\ncoatings 0\n"},
		{fullFacts()[:1], "m1", "order m1 ann 30 50000 1000\nsessions 0 0\nreadings 0\ncoatings 0\n"},
		{fullFacts()[:2], "m1", "order m1 ann 30 50000 1000\nblank b\nsessions 0 0\nreadings 0\ncoatings 0\n"},
	} {
		if s, e := shop.Card(x, c.facts, c.mirror); s != c.want || e != api.OK {
			t.Errorf("%s: %q, %d; wanted %q", c.mirror, s, e, c.want)
		}
		if l, s := shop.Do(x, c.facts, "card "+c.mirror); s+"\n" != c.want || !slices.Equal(l, c.facts) {
			t.Errorf("%s: %q", c.mirror, s)
		}
	}
}

// cardBy is the card of a mirror, from the texts of right facts alone.
func cardBy(x api.Shop, facts []string, mirror string) string {
	var card strings.Builder
	line := func(words ...string) { card.WriteString(strings.Join(words, " ") + "\n") }
	line("order", textsOf(facts, "order", mirror)[0])
	for _, text := range textsOf(facts, "promise", mirror) {
		line("blank", strings.Fields(text)[1])
	}
	minutes := 0
	for _, s := range sessionsOf(facts, mirror) {
		minutes += s.Minutes
	}
	line("sessions", strconv.Itoa(len(textsOf(facts, "session", mirror))), strconv.Itoa(minutes))
	line("readings", strconv.Itoa(len(textsOf(facts, "reading", mirror))))
	line("coatings", strconv.Itoa(len(textsOf(facts, "coat", mirror))))
	for _, c := range certificatesBy(x, facts, mirror) {
		line("signed", strconv.Itoa(c.Number), c.Signer, strconv.Itoa(c.Readings), strconv.Itoa(c.Sum))
	}
	for _, text := range textsOf(facts, "deliver", mirror) {
		paid, _ := shop.Payment(x, facts, mirror)
		line("delivered", strings.Fields(text)[1], strconv.Itoa(paid))
	}
	return card.String()
}

func TestP10_7AgainstReference(t *testing.T) {
	random := rand.New(rand.NewPCG(10, 7))
	for range 60 {
		x := someShop(random)
		facts := someFacts(random, x, 150)
		for _, text := range textsOf(facts, "order", "") {
			mirror := strings.Fields(text)[0]
			if s, e := shop.Card(x, facts, mirror); s != cardBy(x, facts, mirror) || e != api.OK {
				t.Fatalf("%q, %d; wanted %q", s, e, cardBy(x, facts, mirror))
			}
		}
	}
}

// checkDo checks a line of the console that changes no facts.
func checkDo(t *testing.T, x api.Shop, facts []string, line, want string) {
	t.Helper()
	if l, s := shop.Do(x, facts, line); s != want || !slices.Equal(l, facts) {
		t.Errorf("%.100q: %.100q, %.300q; wanted %.100q", line, s, l, want)
	}
}

func TestP10_8Lines(t *testing.T) {
	x, facts := fullShop(), entryBase()
	checkDo(t, x, facts, "pay m1", "40000")
	checkDo(t, x, facts, "earned", "40000")
	checkDo(t, x, facts, "journal", strconv.Itoa(len(journalBy(facts))))
	checkDo(t, x, nil, "earned", "0")
	checkDo(t, x, nil, "journal", "0")
	checkDo(t, chapterShop(), []string{"order m1 ann 30 50000 1000", "promise m1 b"}, "journal", strconv.Itoa(len(journalBy([]string{"order m1 ann 30 50000 1000", "promise m1 b"}))))
	for _, mirror := range append([]string{"m4", " m1", "m1 ", "M1", "m1 m1"}, badNames...) {
		checkDo(t, x, facts, "pay "+mirror, "error 6")
		checkDo(t, x, facts, "card "+mirror, "error 6")
	}
	checkDo(t, x, facts, "pay m2", "error 19")
	checkDo(t, x, facts, "pay m3", "error 19")
	// the rest of a line is the fact, whatever it is
	for text, want := range map[string]string{
		"": "error 7", " ": "error 15", "x": "error 7", "x y": "error 15", " order m9 a 1 1 1": "error 15", "order m9 a 1 1 1 ": "error 7", "order m9 a 1 1 1\n": "error 7", "do order m9 a 1 1 1": "error 15", "order m1 a 1 1 1": "error 5", "session m1 s 1": "error 18",
		strings.Repeat("x", 100): "error 7", strings.Repeat("x", 101): "error 8", "session m3 s 99": "error 26", "promise m2 b": "error 5", "deliver m3 1": "error 14", "reading m2 1 2 9 9": "error 13", "coat m2 1 1": "error 9", "coat m2 9 3": "error 15", "sign m3 x": "error 24",
	} {
		checkDo(t, x, facts, "do "+text, want)
	}
	for _, text := range []string{"order m9 a 1 1 1", "session m3 t 2", "promise m3 c", "reading m2 0 1 3 4", "coat m2 9 1", "deliver m2 9"} {
		if l, s := shop.Do(x, facts, "do "+text); s != "ok" || !slices.Equal(l, append(slices.Clone(facts), text)) {
			t.Errorf("%q: %q, %q", text, s, l)
		}
	}
}

// otherLines are lines that are none of the console.
var otherLines = []string{
	"", " ", "do", "pay", "card", "x", "x m1", "earned ", " earned", "earned m1", "Earned", "journal ", " journal", "journal 1", "journals", "earne", " do order m9 a 1 1 1", "pay\tm1", "card\nm1", "dodo x", "paym1", "cards m1", "do\torder m9 a 1 1 1", "earned\n", "journal\n",
	"\n", "\x00", "order m9 a 1 1 1", "PAY m1", "", " pay m1", "state",
}

func TestP10_8OtherLines(t *testing.T) {
	for _, line := range append(slices.Clone(otherLines), strings.Repeat("do", 50000)) {
		checkDo(t, fullShop(), fullFacts(), line, "error 7")
		checkDo(t, fullShop(), nil, line, "error 7")
	}
}

// allLines are lines of all kinds but the journal.
func allLines() []string {
	return append(slices.Clone(otherLines), "do order m9 a 1 1 1", "do ", "pay m1", "pay x", "earned", "card m1", "card x")
}

// TestP10_8Refused checks what is written where the shop or the facts have an error: only the journal has none of them.
func TestP10_8Refused(t *testing.T) {
	for _, c := range []struct {
		spoil   func(v *visit)
		want    api.Errno
		journal string
	}{
		{func(v *visit) { v.x.Key = 0 }, api.ErrRange, strconv.Itoa(len(journalBy(fullFacts())))},
		{func(v *visit) { v.x.Batches[0].Name = "" }, api.ErrName, strconv.Itoa(len(journalBy(fullFacts())))},
		{func(v *visit) { v.x.Zones, v.facts = 41, nil }, api.ErrRange, "0"},
		{func(v *visit) { v.facts = []string{"A", "B"} }, api.ErrSyntax, "17"},
		{func(v *visit) { v.facts = []string{"paint m1"} }, api.ErrKind, strconv.Itoa(len(journalBy([]string{"paint m1"})))},
		{func(v *visit) { v.facts = v.facts[1:] }, api.ErrMissing, strconv.Itoa(len(journalBy(fullFacts()[1:])))},
		{func(v *visit) { v.facts[16] = "x\n" }, api.ErrSyntax, "error 7"},
		{func(v *visit) { v.facts[3] = "x x"; v.facts[16] = "x\n" }, api.ErrKind, "error 7"},
		{func(v *visit) { v.facts[16] = strings.Repeat("x", 101) }, api.ErrLarge, "error 8"},
		{func(v *visit) { v.facts[3] = "x\n"; v.facts[16] = strings.Repeat("x", 101) }, api.ErrSyntax, "error 7"},
		{func(v *visit) { v.facts = make([]string, 201) }, api.ErrLarge, "error 8"},
		{func(v *visit) { v.facts = make([]string, 200) }, api.ErrSyntax, strconv.Itoa(len(journalBy(make([]string, 200))))},
		{func(v *visit) { v.x.Key, v.facts = 0, []string{"\n"} }, api.ErrRange, "error 7"},
		{func(v *visit) { v.x.Strokes, v.facts = nil, make([]string, 201) }, api.ErrShape, "error 8"},
	} {
		v := validVisit()
		c.spoil(&v)
		for _, line := range allLines() {
			if l, s := shop.Do(v.x, v.facts, line); len(l) != 0 || s != errorText(c.want) {
				t.Errorf("%q: %q, %q; wanted %d", line, l, s, c.want)
			}
		}
		if l, s := shop.Do(v.x, v.facts, "journal"); len(l) != 0 || s != c.journal {
			t.Errorf("%q, %q; wanted %s", l, s, c.journal)
		}
	}
}

// TestP10_8Full checks the console where there is no room for a fact.
func TestP10_8Full(t *testing.T) {
	n := entryOf("session m3 s 1")()
	fill(&n)
	checkDo(t, n.x, n.facts, "do session m3 s 1", "error 16")
	checkDo(t, n.x, n.facts, "do ", "error 16")
	checkDo(t, n.x, n.facts, "do", "error 7") // this is no fact
	checkDo(t, n.x, n.facts, "journal", strconv.Itoa(len(journalBy(n.facts))))
	checkDo(t, n.x, n.facts, "pay m1", "40000")
	if l, s := shop.Do(n.x, n.facts[:199], "do session m3 s 1"); s != "ok" || len(l) != 200 {
		t.Error(s, len(l))
	}
}

// TestP10_8AgainstReference holds the console against the functions that it writes.
func TestP10_8AgainstReference(t *testing.T) {
	random := rand.New(rand.NewPCG(10, 8))
	for range 60 {
		x, facts := someShop(random), []string(nil)
		for n := range 100 {
			text := someFact(random, n/3)
			l, s := shop.Do(x, facts, "do "+text)
			more, e := shop.Accept(x, facts, text)
			if e != api.OK {
				if s != errorText(e) || !slices.Equal(l, facts) {
					t.Fatal(text, s, e)
				}
				continue
			}
			if s != "ok" || !slices.Equal(l, more) {
				t.Fatal(text, s, l)
			}
			facts = l
		}
		earned, _ := shop.Earned(x, facts)
		checkDo(t, x, facts, "earned", strconv.Itoa(earned))
		for _, mirror := range []string{"m1", "m2", "m3", "m4", "m5"} {
			paid, e := shop.Payment(x, facts, mirror)
			want := strconv.Itoa(paid)
			if e != api.OK {
				want = errorText(e)
			}
			checkDo(t, x, facts, "pay "+mirror, want)
		}
	}
}
