package shop_test

import (
	"math"
	"math/rand/v2"
	"regexp"
	"slices"
	"strconv"
	"strings"
	"testing"

	"speculum/api"
	"speculum/shop"
)

func TestP10_5Sums(t *testing.T) {
	for _, c := range []struct {
		before int
		text   string
		want   int
	}{
		{0, "", 0}, {0, "A", 66}, {0, "AB", 17029}, {66, "B", 17029}, {0, "\x00", 1}, {0, "\xff", 256}, {1, "\xff", 513}, {999999936, "", 999999936}, {999999936, "\x00", 999999681}, {-1, "A", 0}, {-1, "", 0}, {999999937, "", 0}, {999999937, "A", 0},
		{math.MinInt, "A", 0}, {math.MaxInt, "A", 0}, {3891050, "\x2c", 999999895}, {3891050, "\x56", 0}, {3891050, "\x57", 1},
	} {
		if n := shop.SumOf(c.before, c.text); n != c.want {
			t.Errorf("%d, %q: %d, wanted %d", c.before, c.text, n, c.want)
		}
	}
	random := rand.New(rand.NewPCG(10, 5))
	for range 3000 {
		before, text := random.IntN(999999937), someBytes(random, random.IntN(130))
		n := shop.SumOf(before, text)
		if n != sumBy(before, text) {
			t.Fatalf("%d, %q: %d", before, text, n)
		}
		at := random.IntN(len(text) + 1)
		if again := shop.SumOf(shop.SumOf(before, text[:at]), text[at:]); again != n {
			t.Fatalf("%d, %q, %q: %d, %d", before, text[:at], text[at:], again, n)
		}
	}
}

// someBytes is a text without a line feed.
func someBytes(random *rand.Rand, length int) string {
	var b []byte
	for range length {
		b = append(b, byte(random.IntN(256)))
		if b[len(b)-1] == '\n' {
			b[len(b)-1] = ' '
		}
	}
	return string(b)
}

// journalBy is a journal of facts, right or not.
func journalBy(facts []string) string {
	var text strings.Builder
	check := 0
	for n, fact := range facts {
		check = sumBy(check, fact)
		text.WriteString(strconv.Itoa(n+1) + " " + strconv.Itoa(check) + " " + fact + "\n")
	}
	return text.String()
}

// checkJournal checks that facts have a journal from which they are recovered.
func checkJournal(t *testing.T, facts []string) string {
	t.Helper()
	text, e := shop.Journal(facts)
	if text != journalBy(facts) || e != api.OK {
		t.Errorf("%.200q: %.200q, %d", facts, text, e)
	}
	if l, n := shop.Recover(text); !slices.Equal(l, facts) || n != len(text) {
		t.Errorf("%.200q: %.200q, %d", text, l, n)
	}
	return text
}

func TestP10_5Journals(t *testing.T) {
	if text := checkJournal(t, []string{"A", "B"}); text != "1 66 A\n2 17029 B\n" {
		t.Errorf("%q", text)
	}
	checkJournal(t, nil)
	checkJournal(t, []string{""})
	checkJournal(t, []string{"", "", ""})
	checkJournal(t, []string{" ", "  ", " x ", "1 66 A"})
	checkJournal(t, []string{strings.Repeat("x", 100), strings.Repeat("\u00e4", 50), strings.Repeat("\xff", 100)})
	checkJournal(t, slices.Repeat([]string{"A"}, 200))
	checkJournal(t, slices.Repeat([]string{strings.Repeat("\x00", 100)}, 200))
	checkJournal(t, []string{"\r", "\r\r", "\x00"})
	checkJournal(t, fullFacts())
}

// ledger is the argument of Journal.
type ledger struct{ facts []string }

func validLedger() ledger {
	return ledger{slices.Repeat([]string{"A", "", strings.Repeat("x", 100)}, 66)}
}

func TestP10_5JournalFaults(t *testing.T) {
	faults := []fault[ledger]{
		{func(x *ledger) { x.facts = make([]string, 201) }, api.ErrLarge},
		{func(x *ledger) { x.facts = slices.Repeat([]string{"\n"}, 201) }, api.ErrLarge},
	}
	for _, at := range []int{0, 1, 100, 197} {
		faults = append(faults,
			fault[ledger]{func(x *ledger) { x.facts[at] = strings.Repeat("x", 101) }, api.ErrLarge},
			fault[ledger]{func(x *ledger) { x.facts[at] = strings.Repeat("\u00e4", 51) }, api.ErrLarge},
			fault[ledger]{func(x *ledger) { x.facts[at] = strings.Repeat("\n", 101) }, api.ErrLarge},
			fault[ledger]{func(x *ledger) { x.facts[at] = "\n" }, api.ErrSyntax},
			fault[ledger]{func(x *ledger) { x.facts[at] = "A\n" }, api.ErrSyntax},
			fault[ledger]{func(x *ledger) { x.facts[at] = strings.Repeat("x", 99) + "\n" }, api.ErrSyntax},
		)
	}
	checkFaults(t, validLedger, func(t *testing.T, x ledger) api.Errno {
		s, e := shop.Journal(x.facts)
		none(t, e, s == "")
		return e
	}, faults)
}

var lineForm = regexp.MustCompile(`\A([1-9][0-9]*) (0|[1-9][0-9]*) ([^\n]*)\n`)

// recoverBy is the facts of a text by the form of its lines, and the number of bytes.
func recoverBy(text string) ([]string, int) {
	var facts []string
	check, bytes := 0, 0
	for len(facts) < 200 {
		found := lineForm.FindStringSubmatch(text[bytes:])
		if found == nil || len(found[3]) > 100 || found[1] != strconv.Itoa(len(facts)+1) {
			break
		}
		check = sumBy(check, found[3])
		if found[2] != strconv.Itoa(check) {
			break
		}
		facts, bytes = append(facts, found[3]), bytes+len(found[0])
	}
	return facts, bytes
}

func TestP10_5Recover(t *testing.T) {
	for _, c := range []struct {
		text  string
		facts []string
		bytes int
	}{
		{"", nil, 0},
		{"\n", nil, 0},
		{"x", nil, 0},
		{"1 66 A", nil, 0},
		{"1 66 A\n", []string{"A"}, 7},
		{"1 66 A\n2 17029 B", []string{"A"}, 7},
		{"1 66 A\n2 17029 B\n", []string{"A", "B"}, 17},
		{"1 66 A\n2 17029 B\n\n", []string{"A", "B"}, 17},
		{"1 66 A\n2 17029 B\n3", []string{"A", "B"}, 17},
		{"1 66 A\n\n2 17029 B\n", []string{"A"}, 7},
		{"1 66 A\n1 17029 B\n", []string{"A"}, 7},
		{"1 66 A\n3 17029 B\n", []string{"A"}, 7},
		{"1 66 A\n2 17028 B\n", []string{"A"}, 7},
		{"1 66 A\n2 67 B\n", []string{"A"}, 7},
		{"1 66 A\n2 17029 B\r\n", []string{"A"}, 7},
		{"1 66 A\n2 17029  B\n", []string{"A"}, 7},
		{"1 66 A\n2  17029 B\n", []string{"A"}, 7},
		{"1 66 A\n2 +17029 B\n", []string{"A"}, 7},
		{"1 66 A\n2 017029 B\n", []string{"A"}, 7},
		{"1 66 A\n02 17029 B\n", []string{"A"}, 7},
		{"1 66 A\n2 1000016966 B\n", []string{"A"}, 7},
		{"1 66 A\n2 17029\n", []string{"A"}, 7},
		{"1 66 A\n2\n", []string{"A"}, 7},
		{"0 66 A\n", nil, 0},
		{"2 66 A\n", nil, 0},
		{" 1 66 A\n", nil, 0},
		{"1 66 A \n", nil, 0},
		{"1\t66 A\n", nil, 0},
		{"1 66\tA\n", nil, 0},
		{"1 66A\n", nil, 0},
		{"66 A\n", nil, 0},
		{"A\n", nil, 0},
		{"1 0\n", nil, 0},
		{"1 0 \n", []string{""}, 5},
		{"1 0 \n2 0 \n", []string{"", ""}, 10},
		{"1 -0 \n", nil, 0},
		{"\ufeff1 66 A\n", nil, 0},
	} {
		if l, n := shop.Recover(c.text); !slices.Equal(l, c.facts) || n != c.bytes {
			t.Errorf("%q: %q, %d", c.text, l, n)
		}
		if l, n := recoverBy(c.text); !slices.Equal(l, c.facts) || n != c.bytes {
			t.Errorf("the reference: %q: %q, %d", c.text, l, n)
		}
	}
}

// TestP10_5RecoverLimits checks the limits of what is recovered.
func TestP10_5RecoverLimits(t *testing.T) {
	for _, count := range []int{199, 200, 201, 250} {
		text := journalBy(slices.Repeat([]string{"A"}, count))
		whole := journalBy(slices.Repeat([]string{"A"}, min(count, 200)))
		if l, n := shop.Recover(text); !slices.Equal(l, slices.Repeat([]string{"A"}, min(count, 200))) || n != len(whole) {
			t.Error(count, len(l), n)
		}
	}
	for _, length := range []int{99, 100, 101, 50000} {
		long := strings.Repeat("x", length)
		facts := []string{"A"}
		if length <= 100 {
			facts = []string{"A", long, "B"}
		}
		if l, n := shop.Recover(journalBy([]string{"A", long, "B"})); !slices.Equal(l, facts) || n != len(journalBy(facts)) {
			t.Error(length, l, n)
		}
	}
	checkRecover(t, strings.Repeat("1", 70000)+" 66 A\n")
	checkRecover(t, "1 "+strings.Repeat("6", 70000)+" A\n")
	checkRecover(t, strings.Repeat(" ", 70000)+"\n")
	checkRecover(t, "1 66 A\n"+strings.Repeat("x", 70000))
}

// checkRecover checks what is recovered from a text against the reference.
func checkRecover(t *testing.T, text string) []string {
	t.Helper()
	l, n := shop.Recover(text)
	if want, bytes := recoverBy(text); !slices.Equal(l, want) || n != bytes {
		t.Fatalf("%.300q: %q, %d; wanted %q, %d", text, l, n, want, bytes)
	}
	return l
}

// TestP10_5EveryByte changes every byte of a journal, and takes it out.
func TestP10_5EveryByte(t *testing.T) {
	text := checkJournal(t, []string{"A", "", "1 66 A", " \x00\xff ", "A"})
	for at := range len(text) {
		for b := range 256 {
			checkRecover(t, text[:at]+string([]byte{byte(b)})+text[at+1:])
		}
		checkRecover(t, text[:at]+text[at+1:])
	}
}

func TestP10_5RecoverAgainstReference(t *testing.T) {
	random := rand.New(rand.NewPCG(5, 10))
	pieces := []string{" ", "\n", "0", "1", "2", "9", "-", "a", "\r", "\x80", "", "1 66 A\n", "\n2 ", "\n\n", "A"}
	counts := map[int]int{}
	for range 30000 {
		var facts []string
		for range random.IntN(5) {
			facts = append(facts, someBytes(random, random.IntN(6)))
		}
		counts[len(checkRecover(t, spoilt(random, journalBy(facts), pieces)))]++
	}
	for n := range 4 {
		if counts[n] < 1000 {
			t.Error("too few", n, counts)
		}
	}
}

// TestP10_10Archive checks that what is recovered from a journal that breaks off anywhere is a beginning of its facts.
func TestP10_10Archive(t *testing.T) {
	random := rand.New(rand.NewPCG(10, 6))
	for round := range 20 {
		facts := someFacts(random, someShop(random), 60)
		if round%2 == 0 {
			facts = []string{"", someBytes(random, 100), "a", someBytes(random, random.IntN(100)), ""}
		}
		text := checkJournal(t, facts)
		for at := range len(text) + 1 {
			l, n := shop.Recover(text[:at])
			begins(t, l, facts)
			if n != len(journalBy(l)) || n > at || len(l) < len(facts) && len(journalBy(facts[:len(l)+1])) <= at {
				t.Fatal(at, n, l)
			}
		}
	}
}
