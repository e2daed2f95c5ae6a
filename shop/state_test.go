package shop_test

import (
	"math/rand/v2"
	"regexp"
	"slices"
	"strconv"
	"strings"
	"testing"

	"speculum/api"
	"speculum/blank"
	"speculum/coat"
	"speculum/grind"
	"speculum/profile"
	"speculum/shop"
)

// textsOf is the rests of the facts with a word that belong to a mirror (to any one if it is empty), of right ones.
func textsOf(facts []string, word, mirror string) []string {
	var l []string
	for _, text := range facts {
		first, rest, _ := strings.Cut(text, " ")
		if first == word && (mirror == "" || strings.Fields(rest)[0] == mirror) {
			l = append(l, rest)
		}
	}
	return l
}

// formOf is the form of the rest of a fact whose error is ErrSyntax if it has not this form.
func formOf(word string) *regexp.Regexp {
	number := ` (0|-?[1-9][0-9]{0,`
	switch word {
	case "order":
		return orderForm
	case "promise", "sign":
		return regexp.MustCompile(`\A([^ ]*) ([^ ]*)\z`)
	case "session":
		return regexp.MustCompile(`\A([^ ]*) ([^ ]*)` + number + `6})\z`)
	case "reading":
		return regexp.MustCompile(`\A([^ ]*)` + strings.Repeat(number+`9})`, 4) + `\z`)
	case "coat":
		return regexp.MustCompile(`\A([^ ]*)` + number + `6})` + number + `6})\z`)
	case "deliver":
		return regexp.MustCompile(`\A([^ ]*)` + number + `5})\z`)
	}
	return nil
}

// mirrorErrorBy is the error of a mirror behind facts.
func mirrorErrorBy(facts []string, mirror string) api.Errno {
	for _, text := range textsOf(facts, "deliver", "") {
		if strings.Fields(text)[0] == mirror {
			return api.ErrLate
		}
	}
	for _, text := range textsOf(facts, "order", "") {
		if strings.Fields(text)[0] == mirror {
			return api.OK
		}
	}
	return api.ErrMissing
}

// hasNews tells whether a mirror has readings behind its last certificate.
func hasNews(facts []string, mirror string) bool {
	last := -1
	for n, text := range facts {
		if strings.HasPrefix(text, "sign "+mirror+" ") {
			last = n
		}
	}
	return len(textsOf(facts[last+1:], "reading", mirror)) > 0
}

// refusalBy is the error of a fact behind right ones, found by looking through the texts of these. Where the chapter
// names a function of another package, this is asked.
func refusalBy(x api.Shop, facts []string, text string) api.Errno {
	if len(facts) >= 200 {
		return api.ErrFull
	}
	if len(text) > 100 {
		return api.ErrLarge
	}
	if !regexp.MustCompile(`\A[^\n ]* [^\n]*\z`).MatchString(text) {
		return api.ErrSyntax
	}
	word, rest, _ := strings.Cut(text, " ")
	form := formOf(word)
	if form == nil {
		return api.ErrKind
	}
	w := form.FindStringSubmatch(rest)
	if w == nil {
		return api.ErrSyntax
	}
	if e := earlyErrorBy(word, w); e != api.OK {
		return e
	}
	if word == "order" {
		switch {
		case slices.ContainsFunc(textsOf(facts, "order", ""), func(s string) bool { return strings.HasPrefix(s, w[1]+" ") }):
			return api.ErrExists
		case len(textsOf(facts, "order", "")) >= 40:
			return api.ErrFull
		}
		return api.OK
	}
	if e := mirrorErrorBy(facts, w[1]); e != api.OK {
		return e
	}
	return lateErrorBy(x, facts, word, w)
}

// earlyErrorBy is the error of the words of a rest, whatever there was before.
func earlyErrorBy(word string, w []string) api.Errno {
	numberAt := func(i int) int {
		n, _ := strconv.Atoi(w[i])
		return n
	}
	switch word {
	case "order":
		_, e := orderBy(strings.Join(w[1:], " "))
		return e
	case "coat":
		switch {
		case !nameForm.MatchString(w[1]):
			return api.ErrName
		case numberAt(2) < 0 || numberAt(2) > 100000:
			return api.ErrRange
		case numberAt(3) < 0 || numberAt(3) > 2:
			return api.ErrKind
		}
	case "sign":
		if !nameForm.MatchString(w[2]) {
			return api.ErrName
		}
	case "deliver":
		if numberAt(2) < 0 || numberAt(2) > 100000 {
			return api.ErrRange
		}
	}
	return api.OK
}

// lateErrorBy is the error of the words of a rest behind those of its mirror.
func lateErrorBy(x api.Shop, facts []string, word string, w []string) api.Errno {
	rest := strings.Join(w[1:], " ")
	switch word {
	case "promise":
		p, _ := blank.ParsePromise(rest)
		_, e := blank.AddPromise(x.Batches, promisesOf(facts, ""), p)
		return e
	case "session":
		s, _ := grind.ParseSession(rest)
		_, e := grind.AddSession(x.Strokes, x.Demand, sessionsOf(facts, ""), s)
		return e
	case "reading":
		r, _ := profile.ParseReading(rest)
		var l []api.HeightReading
		for _, other := range readingsOf(facts, w[1]) {
			l = append(l, other.Reading)
		}
		_, e := profile.AddReading(x.Zones, l, r.Reading)
		return e
	case "coat":
		c, _ := coat.ParseCoating(rest)
		_, e := coat.Next(x.Aging, coatingsOf(facts, w[1]), c)
		return e
	case "sign":
		if !hasNews(facts, w[1]) {
			return api.ErrState
		}
	case "deliver":
		switch {
		case len(textsOf(facts, "promise", w[1])) == 0:
			return api.ErrGap
		case len(textsOf(facts, "sign", w[1])) == 0 || hasNews(facts, w[1]):
			return api.ErrState
		}
	}
	return api.OK
}

func parsedOf[T any](texts []string, parse func(s string) (T, api.Errno)) []T {
	var l []T
	for _, text := range texts {
		x, _ := parse(text)
		l = append(l, x)
	}
	return l
}

func promisesOf(facts []string, mirror string) []api.GlassPromise {
	return parsedOf(textsOf(facts, "promise", mirror), blank.ParsePromise)
}

func sessionsOf(facts []string, mirror string) []api.GrindSession {
	return parsedOf(textsOf(facts, "session", mirror), grind.ParseSession)
}

func readingsOf(facts []string, mirror string) []api.MirrorReading {
	return parsedOf(textsOf(facts, "reading", mirror), profile.ParseReading)
}

func coatingsOf(facts []string, mirror string) []api.CoatEvent {
	return parsedOf(textsOf(facts, "coat", mirror), coat.ParseCoating)
}

// checkState checks that a state is that of right facts.
func checkState(t *testing.T, x api.Shop, facts []string, s api.ShopState) {
	t.Helper()
	if !slices.Equal(s.Orders, parsedOf(textsOf(facts, "order", ""), orderBy)) || !slices.Equal(s.Promises, promisesOf(facts, "")) || !slices.Equal(s.Sessions, sessionsOf(facts, "")) {
		t.Fatal("orders, promises or sessions", s, facts)
	}
	if !slices.Equal(s.Readings, readingsOf(facts, "")) || !slices.Equal(s.Coatings, coatingsOf(facts, "")) {
		t.Fatal("readings or coatings", s, facts)
	}
	var deliveries []string
	for _, d := range s.Deliveries {
		deliveries = append(deliveries, d.Mirror+" "+strconv.Itoa(d.Day))
	}
	if !slices.Equal(deliveries, textsOf(facts, "deliver", "")) {
		t.Fatal("deliveries", s, facts)
	}
	if !slices.Equal(s.Certificates, certificatesBy(x, facts, "")) {
		t.Fatal("certificates", s.Certificates, certificatesBy(x, facts, ""), facts)
	}
}

// someFact is a fact that may be right or not.
func someFact(random *rand.Rand, days int) string {
	pick := func(words ...string) string { return words[random.IntN(len(words))] }
	number := func(least, most int) string { return strconv.Itoa(least + random.IntN(most-least+1)) }
	mirror := pick("m1", "m1", "m2", "m2", "m3", "m4")
	switch random.IntN(20) {
	case 0:
		return "order " + mirror + " ann " + number(0, 50) + " " + number(0, 9000) + " " + number(0, 900)
	case 1, 2:
		return "promise " + mirror + " " + pick("b", "b", "c", "x")
	case 3, 4, 5:
		return "session " + mirror + " " + pick("s", "t", "t", "x") + " " + number(0, 9)
	case 6, 7, 8, 9, 10:
		lo := random.IntN(40) - 30
		return "reading " + mirror + " " + number(0, 3) + " " + number(0, 2) + " " + strconv.Itoa(lo) + " " + strconv.Itoa(lo+random.IntN(60)-2)
	case 11, 12, 13:
		return "coat " + mirror + " " + strconv.Itoa(days+random.IntN(5)-1) + " " + number(0, 2)
	case 14, 15, 16:
		return "sign " + mirror + " " + pick("eve", "sam", "kim-2", "7")
	case 17:
		return "deliver " + mirror + " " + strconv.Itoa(days)
	}
	return pick("", "order", "paint m1", "order m1", "deliver m1 x", "deliver m2 -1", "deliver m1 100001", "sign m1", "sign m1 eve x", "coat m1 1 3", "coat 1 1 1", "order 1 1 1 1 1", "order m 1 1 1 1", "reading m1 0 1 2", "session m1 s", "promise m1", "sign m1 e\n") +
		pick("", "", "", " ", strings.Repeat("x", 100))
}

// someFacts is as many right facts as random ones give.
func someFacts(random *rand.Rand, x api.Shop, tries int) []string {
	var facts []string
	for n := range tries {
		if more, e := shop.Accept(x, facts, someFact(random, n/3)); e == api.OK {
			facts = more
		}
	}
	return facts
}

// someShop is a shop like the full one.
func someShop(random *rand.Rand) api.Shop {
	x := fullShop()
	x.Batches[0].Count = random.IntN(3)
	x.Demand.High = []int{30 + random.IntN(200), 30 + random.IntN(200)}
	x.Aging.Washes = random.IntN(3)
	x.Key = 1 + random.IntN(999999936)
	return x
}

// TestP10_2AgainstReference makes facts one by one, and compares errors and states with those of another way to find them.
func TestP10_2AgainstReference(t *testing.T) {
	random := rand.New(rand.NewPCG(10, 2))
	counts := map[api.Errno]int{}
	for range 150 {
		x, facts := someShop(random), []string(nil)
		for n := range 150 {
			text := someFact(random, n/3)
			want := refusalBy(x, facts, text)
			l, e := shop.Accept(x, facts, text)
			if e != want {
				t.Fatalf("%q behind %q: %d, wanted %d", text, facts, e, want)
			}
			counts[e]++
			behind := append(slices.Clone(facts), text)
			s, at, e2 := shop.StateOf(x, behind)
			if e != api.OK {
				if l != nil || at != len(facts) || e2 != e || !isZero(s) {
					t.Fatal(text, l, at, e2)
				}
				continue
			}
			if !slices.Equal(l, behind) || at != len(behind) || e2 != api.OK {
				t.Fatal(l, behind, at, e2)
			}
			facts = l
			checkState(t, x, facts, s)
		}
	}
	for _, e := range []api.Errno{
		api.OK, api.ErrSyntax, api.ErrLarge, api.ErrKind, api.ErrName, api.ErrRange, api.ErrExists, api.ErrMissing, api.ErrLate, api.ErrStock, api.ErrBreak, api.ErrForm, api.ErrOrder, api.ErrClash, api.ErrState, api.ErrGap, api.ErrFull,
	} {
		if counts[e] < 20 {
			t.Error("too few of a kind", e, counts)
		}
	}
}

// TestP10_10Beginnings checks that states of beginnings have beginnings of the lists.
func TestP10_10Beginnings(t *testing.T) {
	random := rand.New(rand.NewPCG(10, 10))
	for range 30 {
		x := someShop(random)
		facts := someFacts(random, x, 120)
		whole, _, _ := shop.StateOf(x, facts)
		for n := range len(facts) + 1 {
			s, count, e := shop.StateOf(x, facts[:n])
			if count != n || e != api.OK {
				t.Fatal(n, count, e)
			}
			begins(t, s.Orders, whole.Orders)
			begins(t, s.Promises, whole.Promises)
			begins(t, s.Sessions, whole.Sessions)
			begins(t, s.Readings, whole.Readings)
			begins(t, s.Coatings, whole.Coatings)
			begins(t, s.Certificates, whole.Certificates)
			begins(t, s.Deliveries, whole.Deliveries)
		}
	}
}

// begins checks that a list is a beginning of another one.
func begins[T comparable](t *testing.T, l, whole []T) {
	t.Helper()
	if len(l) > len(whole) || !slices.Equal(l, whole[:len(l)]) {
		t.Error("no beginning", l, whole)
	}
}
