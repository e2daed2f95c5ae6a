package shop_test

import (
	"math"
	"math/rand/v2"
	"regexp"
	"strconv"
	"strings"
	"testing"

	"speculum/api"
	"speculum/shop"
)

func orderOf(mirror, customer string, due, cents, penalty int) api.MirrorOrder {
	return api.MirrorOrder{Mirror: mirror, Customer: customer, Due: due, Cents: cents, Penalty: penalty}
}

func TestP10_1FormatOrder(t *testing.T) {
	for _, c := range []struct {
		o    api.MirrorOrder
		want string
	}{
		{orderOf("m1", "ann", 30, 50000, 1000), "m1 ann 30 50000 1000"},
		{api.MirrorOrder{}, "  0 0 0"},
		{orderOf("a b", "\n", -1, math.MinInt, math.MaxInt), "a b \n -1 -9223372036854775808 9223372036854775807"},
		{orderOf("\xff", "\u00e4", 100001, 10000000000000, -7), "\xff \u00e4 100001 10000000000000 -7"},
	} {
		if s := shop.FormatOrder(c.o); s != c.want {
			t.Errorf("%v: %q", c.o, s)
		}
	}
}

// checkOrder checks that a text is read as an order, or refused.
func checkOrder(t *testing.T, text string, want api.MirrorOrder, wantError api.Errno) {
	t.Helper()
	if o, e := shop.ParseOrder(text); o != want || e != wantError {
		t.Errorf("%.99q: %v, %d; wanted %v, %d", text, o, e, want, wantError)
	}
}

func TestP10_1ParseOrder(t *testing.T) {
	checkOrder(t, "m1 ann 30 50000 1000", orderOf("m1", "ann", 30, 50000, 1000), api.OK)
	checkOrder(t, "m m 0 0 0", orderOf("m", "m", 0, 0, 0), api.OK)
	checkOrder(t, "m1 ann 100000 1000000000000 1000000000000", orderOf("m1", "ann", 100000, 1000000000000, 1000000000000), api.OK)
	for _, name := range names {
		checkOrder(t, name+" b 1 2 3", orderOf(name, "b", 1, 2, 3), api.OK)
		checkOrder(t, "b "+name+" 1 2 3", orderOf("b", name, 1, 2, 3), api.OK)
	}
	for _, name := range badNames {
		if strings.Contains(name, " ") {
			continue
		}
		checkOrder(t, name+" b 1 2 3", api.MirrorOrder{}, api.ErrName)
		checkOrder(t, "b "+name+" 1 2 3", api.MirrorOrder{}, api.ErrName)
		checkOrder(t, "b "+name+" -1 2 3", api.MirrorOrder{}, api.ErrName)
		checkOrder(t, "b "+name+" 1 2 x", api.MirrorOrder{}, api.ErrSyntax)
	}
	for _, number := range []string{"-1", "-9999999999999", "9999999999999"} {
		checkOrder(t, "m a "+number+" 2 3", api.MirrorOrder{}, api.ErrRange)
		checkOrder(t, "m a 1 "+number+" 3", api.MirrorOrder{}, api.ErrRange)
		checkOrder(t, "m a 1 2 "+number, api.MirrorOrder{}, api.ErrRange)
		checkOrder(t, "m 1 "+number+" 2 3", api.MirrorOrder{}, api.ErrName)
	}
	checkOrder(t, "m a 100001 2 3", api.MirrorOrder{}, api.ErrRange)
	checkOrder(t, "m a 1 1000000000001 3", api.MirrorOrder{}, api.ErrRange)
	checkOrder(t, "m a 1 2 1000000000001", api.MirrorOrder{}, api.ErrRange)
	checkOrder(t, strings.Repeat("x", 70000)+" a 1 2 3", api.MirrorOrder{}, api.ErrName)
}

// badNumbers are words that are no numbers of at most 13 digits.
var badNumbers = []string{
	"", "x", "03", "00", "-0", "-03", "+3", "-", "--3", "3.0", "3.", "3\r", "3\t", "3\n", "\n3", "10000000000000", "-10000000000000", "99999999999999999999", "-99999999999999999999", "00000000000001", "0x1", "1_0", "3e0", "\u0663", "3\x00", "\x803", "3-",
	"9223372036854775808", "18446744073709551617",
}

func TestP10_1WrongOrders(t *testing.T) {
	wrong := []string{
		"", " ", "    ", "m", "m a", "m a 1", "m a 1 2", "m a 1 2 ", "m a 1 2 3 ", " m a 1 2 3", "m  a 1 2 3", "m a 1 2  3", "m a 1 2 3 4", "m\ta 1 2 3", "m a 1 2\t3", "m,a,1,2,3", "1 2 3 m a", "m a b 1 2 3", "order m a 1 2 3", "m a 1 2 3\n", "m a\n1 2 3",
		"m a 1 2 3" + strings.Repeat(" 1", 9000), strings.Repeat(" ", 70000),
	}
	for _, number := range badNumbers {
		wrong = append(wrong, "m a "+number+" 2 3", "m a 1 "+number+" 3", "m a 1 2 "+number, " 1 -1 "+number+" 3")
	}
	for _, text := range wrong {
		checkOrder(t, text, api.MirrorOrder{}, api.ErrSyntax)
	}
}

var orderForm = regexp.MustCompile(`\A([^ ]*) ([^ ]*) (0|-?[1-9][0-9]{0,12}) (0|-?[1-9][0-9]{0,12}) (0|-?[1-9][0-9]{0,12})\z`)

var nameForm = regexp.MustCompile(`\A[a-zA-Z][a-zA-Z0-9-]{0,11}\z`)

// orderBy reads an order by its form.
func orderBy(text string) (api.MirrorOrder, api.Errno) {
	found := orderForm.FindStringSubmatch(text)
	if found == nil {
		return api.MirrorOrder{}, api.ErrSyntax
	}
	if !nameForm.MatchString(found[1]) || !nameForm.MatchString(found[2]) {
		return api.MirrorOrder{}, api.ErrName
	}
	due, _ := strconv.Atoi(found[3])
	cents, _ := strconv.Atoi(found[4])
	penalty, _ := strconv.Atoi(found[5])
	if due < 0 || due > 100000 || min(cents, penalty) < 0 || max(cents, penalty) > 1000000000000 {
		return api.MirrorOrder{}, api.ErrRange
	}
	return orderOf(found[1], found[2], due, cents, penalty), api.OK
}

// spoilt is a text with a few bytes or pieces changed.
func spoilt(random *rand.Rand, text string, pieces []string) string {
	for range random.IntN(4) {
		at := random.IntN(len(text) + 1)
		end := min(at+random.IntN(3), len(text))
		text = text[:at] + pieces[random.IntN(len(pieces))] + text[end:]
	}
	return text
}

func TestP10_1OrdersAgainstReference(t *testing.T) {
	random := rand.New(rand.NewPCG(10, 1))
	pieces := []string{" ", "\n", "0", "1", "9", "-", "-0", "a", "\r", "\x80", " 7", "  ", "10000000000000", "\t", "m ", "99999", " -5", ""}
	counts := map[api.Errno]int{}
	for range 60000 {
		text := shop.FormatOrder(orderOf(names[random.IntN(len(names))], "a", random.IntN(110000), random.IntN(1100000000000), random.IntN(100)-1))
		text = spoilt(random, text, pieces)
		o, e := shop.ParseOrder(text)
		if want, wantError := orderBy(text); o != want || e != wantError {
			t.Fatalf("%q: %v, %d; wanted %v, %d", text, o, e, want, wantError)
		}
		if e == api.OK && shop.FormatOrder(o) != text {
			t.Fatal(o, text)
		}
		counts[e]++
	}
	for _, e := range []api.Errno{api.OK, api.ErrSyntax, api.ErrName, api.ErrRange} {
		if counts[e] < 1000 {
			t.Error("too few of a kind", e, counts)
		}
	}
}
