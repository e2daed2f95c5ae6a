package shop_test

import (
	"slices"
	"strconv"
	"strings"
	"testing"

	"speculum/api"
	"speculum/shop"
)

// entry is a fact behind others, which may be spoilt word by word.
type entry struct {
	x     api.Shop
	facts []string
	word  string
	words []string
	tail  string
}

func (n entry) text() string {
	return strings.Join(append([]string{n.word}, n.words...), " ") + n.tail
}

// entryBase is the facts behind which entries stand: m1 is delivered, m2 has all but that, m3 nothing but a session.
func entryBase() []string {
	return append(fullFacts(), "order m3 kim 5 6 7", "session m3 s 1", "order m5 joe 1 1 1", "order m6 joe 1 1 1")
}

// entryOf makes a fact behind the facts of entryBase and others.
func entryOf(text string, more ...string) func() entry {
	return func() entry {
		word, rest, _ := strings.Cut(text, " ")
		return entry{x: fullShop(), facts: append(entryBase(), more...), word: word, words: strings.Split(rest, " ")}
	}
}

// entryError is the error of a fact, by all functions that accept one.
func entryError(t *testing.T, n entry) api.Errno {
	t.Helper()
	e := acceptError(t, visit{x: n.x, facts: n.facts, text: n.text()})
	behind := append(slices.Clone(n.facts), n.text())
	if s, at, e2 := shop.StateOf(n.x, behind); e == api.ErrFull && len(n.facts) == api.MaxFacts {
		if at != 0 || e2 != api.ErrLarge || !isZero(s) {
			t.Error("too many facts:", at, e2)
		}
	} else if shop.CheckShop(n.x) == api.OK && isRight(n) && (e2 != e || e != api.OK && at != len(n.facts)) {
		t.Error("another error by StateOf", n.text(), at, e2, e)
	}
	if server, e3 := shop.NewServer(n.x, n.facts); e3 == api.OK {
		checkHears(t, server, n, e)
	} else if e3 != e {
		t.Error("another error by NewServer", e3, e)
	}
	return e
}

// isRight tells whether the facts ahead of an entry are right.
func isRight(n entry) bool {
	_, _, e := shop.StateOf(n.x, n.facts)
	return e == api.OK
}

// checkHears checks that a server tells the error of an entry, and has the entry just if there is none.
func checkHears(t *testing.T, server *shop.Server, n entry, e api.Errno) {
	t.Helper()
	want, facts := "ok", append(slices.Clone(n.facts), n.text())
	if e != api.OK {
		want, facts = errorText(e), n.facts
	}
	if l, is := server.Hear(api.Letter{Client: 20, Number: 1, Text: n.text()}); !is || l != (api.Letter{Client: 20, Number: 1, Text: want}) {
		t.Error("another error by a server", l, is, want)
	}
	if !slices.Equal(server.Facts(), facts) {
		t.Error("not the facts of a server", server.Facts())
	}
}

// fill makes the facts of an entry so many as may be.
func fill(n *entry) {
	for len(n.facts) < api.MaxFacts {
		n.facts = append(n.facts, "reading m"+strconv.Itoa(5+len(n.facts)%2)+" 0 1 0 9")
	}
}

// headFaults are the faults of a fact of these words ahead of those of its rest.
func headFaults(words []string) []fault[entry] {
	return []fault[entry]{
		{func(n *entry) { n.x.Batches[0].Name = "" }, api.ErrName},
		{func(n *entry) { n.x.Key = 0 }, api.ErrRange},
		{func(n *entry) { n.facts = make([]string, 201) }, api.ErrLarge},
		{func(n *entry) { n.facts[0] = "order" }, api.ErrSyntax},
		{func(n *entry) { n.facts[20] = "order m3 a 1 1 1" }, api.ErrExists},
		{fill, api.ErrFull},
		{func(n *entry) { n.tail = strings.Repeat("x", 101) }, api.ErrLarge},
		{func(n *entry) { n.tail = strings.Repeat("\n", 101) }, api.ErrLarge},
		{func(n *entry) { n.tail = "\n" }, api.ErrSyntax},
		{func(n *entry) { n.tail = "\nx" }, api.ErrSyntax},
		{func(n *entry) { n.word = "paint\n" }, api.ErrSyntax},
		{func(n *entry) { n.words = nil }, api.ErrSyntax},
		{func(n *entry) { n.word, n.words = "", nil }, api.ErrSyntax},
		{func(n *entry) { n.word = "" }, api.ErrKind},
		{func(n *entry) { n.word = "paint" }, api.ErrKind},
		{func(n *entry) { n.word += "s" }, api.ErrKind},
		{func(n *entry) { n.word = n.word[1:] }, api.ErrKind},
		{func(n *entry) { n.word = strings.ToUpper(n.word) }, api.ErrKind},
		{func(n *entry) { n.word += "\t" }, api.ErrKind},
		{func(n *entry) { n.word = "\t\r" + n.word }, api.ErrKind},
		{func(n *entry) { n.words = []string{""} }, api.ErrSyntax},
		{func(n *entry) { n.words = words[:1] }, api.ErrSyntax},
		{func(n *entry) { n.words = words[1:2] }, api.ErrSyntax},
		{func(n *entry) { n.words = words[:len(words)-1] }, api.ErrSyntax},
		{func(n *entry) { n.words = append([]string{""}, words...) }, api.ErrSyntax},
		{func(n *entry) { n.words = append(slices.Clone(words), "") }, api.ErrSyntax},
		{func(n *entry) { n.words = append(slices.Clone(words), "x") }, api.ErrSyntax},
		{func(n *entry) { n.words = append([]string{words[0], ""}, words[1:]...) }, api.ErrSyntax},
	}
}

// wordFaults are the faults of a word.
func wordFaults(at int, want api.Errno, words ...string) []fault[entry] {
	var l []fault[entry]
	for _, word := range words {
		l = append(l, fault[entry]{func(n *entry) { n.words[at] = word }, want})
	}
	return l
}

// moreFault is that of more facts.
func moreFault(want api.Errno, more ...string) []fault[entry] {
	return []fault[entry]{{func(n *entry) {
		if !slices.Contains(n.facts, more[0]) || n.facts[len(n.facts)-1] != more[len(more)-1] {
			n.facts = append(n.facts, more...)
		}
	}, want}}
}

// mirrorFaults are those of a mirror that has no order, or is delivered.
func mirrorFaults() []fault[entry] {
	return append(wordFaults(0, api.ErrMissing, "m4", "M2", "m", "m11", "m2-"), wordFaults(0, api.ErrLate, "m1")...)
}

// anyMirrorFaults are mirrorFaults where the mirror need not be a name.
func anyMirrorFaults() []fault[entry] {
	return append(wordFaults(0, api.ErrMissing, "", "1", "m_", "\xff", "m2\t"), mirrorFaults()...)
}

func checkEntry(t *testing.T, valid func() entry, lists ...[]fault[entry]) {
	t.Helper()
	checkFaults(t, valid, entryError, slices.Concat(append([][]fault[entry]{headFaults(valid().words)}, lists...)...))
}

// ordersOf is the facts that so many mirrors are ordered.
func ordersOf(count int) []string {
	var l []string
	for n := range count {
		l = append(l, "order o"+strconv.Itoa(n)+" ann 1 2 3")
	}
	return l
}

func TestP10_2OrderFaults(t *testing.T) {
	checkEntry(t, entryOf("order m9 zoe 3 4 5"),
		wordFaults(2, api.ErrSyntax, "x", "", "03", "10000000000000"), wordFaults(4, api.ErrSyntax, "-0", "+1"),
		wordFaults(0, api.ErrName, "", "9", "abcdefghijklm"), wordFaults(1, api.ErrName, "", "9", "a_"),
		wordFaults(2, api.ErrRange, "-1", "100001"), wordFaults(3, api.ErrRange, "-1", "1000000000001"), wordFaults(4, api.ErrRange, "-1", "1000000000001"),
		wordFaults(0, api.ErrExists, "m1", "m2", "m3"),
		moreFault(api.ErrFull, ordersOf(35)...),
	)
	checkEntry(t, entryOf("order m9 zoe 3 4 5", ordersOf(34)...))
}

func TestP10_2PromiseFaults(t *testing.T) {
	empty := []fault[entry]{{func(n *entry) { n.x.Batches[1].Count = 1 }, api.ErrStock}}
	checkEntry(t, entryOf("promise m3 c"),
		anyMirrorFaults(),
		wordFaults(0, api.ErrExists, "m2"),
		wordFaults(1, api.ErrMissing, "", "a", "C", "cc"),
		empty,
	)
	// promises of all mirrors count
	checkEntry(t, entryOf("promise m3 b"), moreFault(api.ErrStock, "promise m5 b"))
}

func TestP10_2SessionFaults(t *testing.T) {
	checkEntry(t, entryOf("session m2 s 9"),
		wordFaults(2, api.ErrSyntax, "x", "", "01", "10000000"),
		anyMirrorFaults(),
		wordFaults(1, api.ErrMissing, "", "S", "st"),
		wordFaults(2, api.ErrRange, "0", "-1", "10001", "9999999"),
		wordFaults(2, api.ErrBreak, "10", "10000"),
		moreFault(api.ErrBreak, "session m2 s 1"),
	)
	checkEntry(t, entryOf("session m3 t 12", "session m2 t 9")) // other mirrors do not count
}

func TestP10_2ReadingFaults(t *testing.T) {
	same := []fault[entry]{{func(n *entry) { n.words[2] = n.words[1] }, api.ErrForm}}
	turned := []fault[entry]{{func(n *entry) { n.words[3], n.words[4] = "9", "8" }, api.ErrOrder}}
	clash := []fault[entry]{{func(n *entry) { copy(n.words[1:], []string{"1", "2", "1", "5"}) }, api.ErrClash}}
	checkEntry(t, entryOf("reading m2 0 1 5 9"),
		wordFaults(1, api.ErrSyntax, "x", "", "01", "10000000000"), wordFaults(4, api.ErrSyntax, "-0", "9."),
		anyMirrorFaults(),
		moreFault(api.ErrLarge, slices.Repeat([]string{"reading m2 1 2 -20 0"}, 99)...),
		wordFaults(1, api.ErrMissing, "-1", "3", "40"), wordFaults(2, api.ErrMissing, "-1", "3", "9999999999"),
		same,
		wordFaults(3, api.ErrRange, "-1000001"), wordFaults(4, api.ErrRange, "1000001"),
		turned,
		clash,
	)
	many := slices.Repeat([]string{"reading m2 1 2 -20 0", "reading m3 1 2 5 6"}, 30)
	checkEntry(t, entryOf("reading m2 0 2 5 9", many...), moreFault(api.ErrClash, "reading m2 0 2 10 11"))
}

// stripsOf is events of a coating that is on a mirror: it is taken off and put on again and again.
func stripsOf(mirror string, count int) []string {
	var l []string
	for n := range count {
		l = append(l, "coat "+mirror+" 8 "+strconv.Itoa(2-n%2*2))
	}
	return l
}

func TestP10_2CoatFaults(t *testing.T) {
	checkEntry(t, entryOf("coat m2 9 1"),
		wordFaults(1, api.ErrSyntax, "x", "", "09", "10000000"), wordFaults(2, api.ErrSyntax, "-0", "1."),
		wordFaults(0, api.ErrName, "", "1", "m_"),
		wordFaults(1, api.ErrRange, "-1", "100001"),
		wordFaults(2, api.ErrKind, "-1", "3", "9999999"),
		mirrorFaults(),
		moreFault(api.ErrLarge, stripsOf("m2", 39)...),
		wordFaults(1, api.ErrOrder, "0", "5"),
		wordFaults(2, api.ErrState, "0"),
		moreFault(api.ErrFull, "coat m2 7 1"),
	)
	checkEntry(t, entryOf("coat m2 9 1", stripsOf("m2", 38)...))
	// the coatings of other mirrors do not count
	checkEntry(t, entryOf("coat m3 1 0", append(stripsOf("m2", 39), "coat m5 99 0")...), wordFaults(2, api.ErrState, "1", "2"))
}

func TestP10_2SignFaults(t *testing.T) {
	var bad []string
	for _, name := range badNames {
		if !strings.ContainsAny(name, " \n") {
			bad = append(bad, name)
		}
	}
	checkEntry(t, entryOf("sign m2 eve", "reading m2 0 1 5 9"),
		wordFaults(1, api.ErrName, bad...),
		anyMirrorFaults(),
		wordFaults(0, api.ErrState, "m3"),
		moreFault(api.ErrState, "sign m2 eve"),
	)
	for _, name := range names {
		if e := entryError(t, entryOf("sign m2 "+name, "reading m2 1 2 -20 0")()); e != api.OK {
			t.Error(name, e)
		}
	}
}

func TestP10_2DeliverFaults(t *testing.T) {
	checkEntry(t, entryOf("deliver m2 60"),
		wordFaults(1, api.ErrSyntax, "x", "", "060", "-0", "+60", "60.", "1000000", "-1000000", "99999999999999999999", "\u0663"),
		wordFaults(1, api.ErrRange, "-1", "100001", "999999", "-999999"),
		anyMirrorFaults(),
		wordFaults(0, api.ErrGap, "m3", "m5"),
		moreFault(api.ErrState, "reading m2 0 1 5 9"),
		moreFault(api.ErrState, "reading m2 1 2 -20 0", "reading m2 1 2 -20 0", "sign m2 eve", "reading m2 1 2 -20 0"),
	)
	checkEntry(t, entryOf("deliver m3 0", "promise m3 c", "reading m3 0 1 0 0", "sign m3 eve", "reading m2 0 1 5 9"), wordFaults(1, api.ErrSyntax, "0 "))
	checkEntry(t, entryOf("deliver m2 100000", "reading m3 0 1 0 0"))
	// without a certificate, with readings and without
	for _, more := range [][]string{{"promise m3 c"}, {"promise m3 c", "reading m3 0 1 0 0"}} {
		n := entryOf("deliver m3 5", more...)()
		if e := entryError(t, n); e != api.ErrState {
			t.Error(more, e)
		}
	}
}

// TestP10_2LongTexts checks that a text may have 100 bytes.
func TestP10_2LongTexts(t *testing.T) {
	for length := range 130 {
		for _, c := range []struct {
			head string
			want api.Errno
		}{
			{"sign m2 ", api.ErrName}, {"sign", api.ErrSyntax}, {"sig n", api.ErrKind}, {"promise m", api.ErrSyntax}, {"promise m2 ", api.ErrExists}, {"deliver m2 1", api.ErrSyntax},
		} {
			text := c.head + strings.Repeat("_", length)
			want := c.want
			if len(text) > 100 {
				want = api.ErrLarge
			} else if length == 0 && c.head == "deliver m2 1" {
				want = api.OK
			}
			for _, bytes := range []string{text, strings.ReplaceAll(text, "_", "\xff"), strings.ReplaceAll(text, "__", "\u00e4")} {
				if e := acceptError(t, visit{x: fullShop(), facts: fullFacts(), text: bytes}); e != want {
					t.Errorf("%q (%d bytes): %d, wanted %d", bytes, len(bytes), e, want)
				}
			}
		}
	}
}

// TestP10_2ManyFacts checks that there may be 200 facts.
func TestP10_2ManyFacts(t *testing.T) {
	n := entryOf("session m3 s 1")()
	fill(&n)
	if s, count, e := shop.StateOf(n.x, n.facts); count != 200 || e != api.OK || len(s.Readings) != 182 {
		t.Error(count, e, len(s.Readings))
	}
	if l, e := shop.Accept(n.x, n.facts, n.text()); l != nil || e != api.ErrFull {
		t.Error(l, e)
	}
	if l, e := shop.Accept(n.x, n.facts[:199], n.text()); len(l) != 200 || e != api.OK {
		t.Error(l, e)
	}
	if s, at, e := shop.StateOf(n.x, append(slices.Clone(n.facts), "")); !isZero(s) || at != 0 || e != api.ErrLarge {
		t.Error(s, at, e)
	}
	if s, count, e := shop.StateOf(n.x, nil); !isZero(s) || count != 0 || e != api.OK {
		t.Error(s, count, e)
	}
}

// TestP10_2ChapterFacts is the second example of the chapter.
func TestP10_2ChapterFacts(t *testing.T) {
	facts := []string{"order m1 ann 30 50000 1000", "promise m1 b"}
	for _, c := range []struct {
		text string
		want api.Errno
	}{
		{"sign m1 eve", api.ErrState},
		{"deliver m1 40", api.ErrState},
		{"session m1 s 11", api.ErrBreak},
		{"session m1 s 10", api.OK},
		{"promise m2 b", api.ErrMissing},
		{"reading m1 0 0 1 2", api.ErrForm},
		{"reading m1 0 1 1 2", api.ErrMissing},
		{"coat m1 5 0", api.OK},
		{"order m2 bob 1 2 3", api.OK},
	} {
		if e := acceptError(t, visit{x: chapterShop(), facts: facts, text: c.text}); e != c.want {
			t.Error(c.text, e, c.want)
		}
	}
}
