package shop_test

import (
	"math"
	"math/rand/v2"
	"slices"
	"strconv"
	"strings"
	"testing"

	"speculum/api"
	"speculum/shop"
)

func letter(client, number int, text string) api.Letter {
	return api.Letter{Client: client, Number: number, Text: text}
}

func newServer(t *testing.T, x api.Shop, facts []string) *shop.Server {
	t.Helper()
	s, e := shop.NewServer(x, facts)
	if s == nil || e != api.OK || !slices.Equal(s.Facts(), facts) {
		t.Fatal("no server", e)
	}
	return s
}

func newClient(t *testing.T, number int) *shop.Client {
	t.Helper()
	c, e := shop.NewClient(number)
	if c == nil || e != api.OK || c.Waiting() {
		t.Fatal("no client", e)
	}
	return c
}

// checkAnswer checks what a server answers to a letter.
func checkAnswer(t *testing.T, s *shop.Server, l api.Letter, want string, facts ...string) {
	t.Helper()
	answer, is := s.Hear(l)
	if !is || answer != letter(l.Client, l.Number, want) || !slices.Equal(s.Facts(), facts) {
		t.Errorf("%v: %v, %v, %q", l, answer, is, s.Facts())
	}
}

// checkIgnored checks that a letter has no answer and no effect.
func checkIgnored(t *testing.T, s *shop.Server, l api.Letter) {
	t.Helper()
	facts := s.Facts()
	if answer, is := s.Hear(l); is || answer != (api.Letter{}) || !slices.Equal(s.Facts(), facts) {
		t.Errorf("%v: %v, %v, %q", l, answer, is, s.Facts())
	}
}

const (
	firstFact  = "order m1 ann 30 50000 1000"
	secondFact = "promise m1 b"
)

func TestP10_9Server(t *testing.T) {
	s := newServer(t, chapterShop(), nil)
	for _, number := range []int{0, 2, 3, -1, math.MinInt, math.MaxInt} { // nothing was done: there is no letter before the first one
		checkIgnored(t, s, letter(1, number, firstFact))
	}
	checkAnswer(t, s, letter(1, 1, firstFact), "ok", firstFact)
	checkAnswer(t, s, letter(1, 1, firstFact), "ok", firstFact)
	checkAnswer(t, s, letter(1, 1, "another text"), "ok", firstFact)
	for _, number := range []int{0, 3, -1, math.MinInt, math.MaxInt} {
		checkIgnored(t, s, letter(1, number, secondFact))
	}
	checkAnswer(t, s, letter(1, 2, "order m1 bob 3 1 1"), "error 5", firstFact)
	checkAnswer(t, s, letter(1, 2, secondFact), "error 5", firstFact) // a refused request has its number
	checkIgnored(t, s, letter(1, 1, secondFact))
	checkAnswer(t, s, letter(1, 3, secondFact), "ok", firstFact, secondFact)
	checkIgnored(t, s, letter(1, 2, secondFact))
	checkIgnored(t, s, letter(1, 5, secondFact))
	checkAnswer(t, s, letter(1, 3, ""), "ok", firstFact, secondFact)
	checkAnswer(t, s, letter(1, 4, ""), "error 7", firstFact, secondFact)
	checkAnswer(t, s, letter(1, 5, strings.Repeat("x", 70000)), "error 8", firstFact, secondFact)
	checkAnswer(t, s, letter(1, 6, "sign m1 eve"), "error 24", firstFact, secondFact)
}

// TestP10_9Clients checks that each client has numbers and answers of its own.
func TestP10_9Clients(t *testing.T) {
	s := newServer(t, chapterShop(), []string{firstFact})
	for _, client := range []int{0, -1, 21, 22, math.MinInt, math.MaxInt} {
		checkIgnored(t, s, letter(client, 1, secondFact))
		checkIgnored(t, s, letter(client, 0, secondFact))
	}
	for client := 1; client <= 20; client++ {
		checkIgnored(t, s, letter(client, 2, secondFact))
		checkAnswer(t, s, letter(client, 1, "x "+strconv.Itoa(client)), "error 15", firstFact)
	}
	checkAnswer(t, s, letter(20, 2, secondFact), "ok", firstFact, secondFact)
	for client := 1; client <= 19; client++ {
		checkAnswer(t, s, letter(client, 1, secondFact), "error 15", firstFact, secondFact)
		checkAnswer(t, s, letter(client, 2, secondFact), "error 5", firstFact, secondFact)
	}
	checkAnswer(t, s, letter(20, 2, ""), "ok", firstFact, secondFact)
}

// TestP10_9Full checks a server that has no room for a fact.
func TestP10_9Full(t *testing.T) {
	n := entryOf("session m3 s 1")()
	fill(&n)
	s := newServer(t, n.x, n.facts[:199])
	checkAnswer(t, s, letter(2, 1, n.text()), "ok", append(slices.Clone(n.facts[:199]), n.text())...)
	checkAnswer(t, s, letter(2, 2, n.text()), "error 16", append(slices.Clone(n.facts[:199]), n.text())...)
	checkAnswer(t, s, letter(2, 3, ""), "error 16", append(slices.Clone(n.facts[:199]), n.text())...)
	if s, e := shop.NewServer(n.x, append(n.facts, n.text())); s != nil || e != api.ErrLarge {
		t.Error(s, e)
	}
}

// checkWaits checks that a client waits for the answer to a letter.
func checkWaits(t *testing.T, c *shop.Client, want api.Letter) {
	t.Helper()
	if l, is := c.Again(); !is || l != want || !c.Waiting() {
		t.Errorf("%v, %v, %v; wanted %v", l, is, c.Waiting(), want)
	}
	if l, e := c.Ask("more"); l != (api.Letter{}) || e != api.ErrBusy {
		t.Error(l, e)
	}
}

func TestP10_9Client(t *testing.T) {
	for _, number := range []int{0, -1, 21, math.MinInt, math.MaxInt} {
		if c, e := shop.NewClient(number); c != nil || e != api.ErrRange {
			t.Error(number, c, e)
		}
	}
	for _, number := range []int{1, 2, 19, 20} {
		c := newClient(t, number)
		checkUnheard(t, c, letter(number, 0, "ok"), letter(number, 1, "ok"), api.Letter{})
		if l, is := c.Again(); is || l != (api.Letter{}) {
			t.Error(l, is)
		}
		for n, text := range []string{"a", "", "a", strings.Repeat("\n", 70000)} {
			asked := letter(number, n+1, text)
			if l, e := c.Ask(text); l != asked || e != api.OK {
				t.Error(l, e)
			}
			checkWaits(t, c, asked)
			for _, other := range []int{n, n - 1, n + 2, -n - 1, 0, math.MinInt, math.MaxInt} {
				checkUnheard(t, c, letter(number, other, "no"))
			}
			for _, other := range []int{number - 1, number + 1, 0, -number, math.MaxInt} {
				checkUnheard(t, c, letter(other, n+1, "no"))
			}
			checkWaits(t, c, asked)
			for range 2 {
				checkWaits(t, c, asked) // as often as it is wanted
			}
			if s, is := c.Hear(letter(number, n+1, text+"!")); s != text+"!" || !is || c.Waiting() {
				t.Error(s, is)
			}
			checkUnheard(t, c, letter(number, n+1, "no"), letter(number, n, "no"), letter(number, n+2, "no"))
			if l, is := c.Again(); is || l != (api.Letter{}) || c.Waiting() {
				t.Error(l, is)
			}
		}
	}
}

// checkUnheard checks that letters to a client change nothing.
func checkUnheard(t *testing.T, c *shop.Client, letters ...api.Letter) {
	t.Helper()
	for _, l := range letters {
		before, waits := c.Again()
		s, is := c.Hear(l)
		after, waitsStill := c.Again()
		if s != "" || is || before != after || waits != waitsStill || c.Waiting() != waits {
			t.Error(l, s, is, before, after)
		}
	}
}

func TestP10_9Nil(t *testing.T) {
	var s *shop.Server
	var c *shop.Client
	for range 2 {
		checkIgnored(t, s, letter(1, 1, firstFact))
		checkIgnored(t, s, api.Letter{})
		if s.Facts() != nil || c.Waiting() {
			t.Error("a nil pointer has something")
		}
		if l, e := c.Ask("x"); l != (api.Letter{}) || e != api.ErrNil {
			t.Error(l, e)
		}
		if l, is := c.Again(); l != (api.Letter{}) || is {
			t.Error(l, is)
		}
		if text, is := c.Hear(letter(0, 0, "x")); text != "" || is {
			t.Error(text, is)
		}
	}
}

// TestP10_9Apart checks that servers share nothing with each other, and keep no arguments.
func TestP10_9Apart(t *testing.T) {
	x, facts := fullShop(), fullFacts()
	x.Batches[1].Count = 2
	a, b := newServer(t, x, facts), newServer(t, x, facts)
	wipe(x.Batches)
	wipe(x.Strokes[0].Wear)
	wipe(x.Strokes[1].Wear)
	wipe(x.Strokes)
	x.Demand.Low[1], x.Demand.High[1] = -1, -1
	wipe(facts)
	for _, s := range []*shop.Server{a, b} {
		l := fullFacts()
		for n, c := range []struct{ text, want string }{
			{"order m3 kim 5 6 7", "ok"}, {"promise m3 c", "ok"}, {"session m3 t 12", "ok"}, {"session m3 t 1", "error 26"}, {"session m2 s 9", "ok"}, {"session m2 s 1", "error 26"}, {"order m4 kim 5 6 7", "ok"}, {"promise m4 c", "error 20"}, {"coat m2 9 1", "ok"}, {"coat m2 9 1", "error 16"},
		} {
			if c.want == "ok" {
				l = append(l, c.text)
			}
			checkAnswer(t, s, letter(1, n+1, c.text), c.want, l...)
			wipe(s.Facts())
		}
	}
}

// line is a line that loses, doubles and delays letters.
type line struct {
	random  *rand.Rand
	letters []api.Letter
}

func (l *line) send(x api.Letter) {
	for range l.random.IntN(3) {
		l.letters = append(l.letters, x)
	}
}

// arrive is any of the letters that are on the way; it may stay there, too.
func (l *line) arrive() (api.Letter, bool) {
	if len(l.letters) == 0 {
		return api.Letter{}, false
	}
	at := l.random.IntN(len(l.letters))
	x := l.letters[at]
	if l.random.IntN(4) > 0 {
		l.letters = slices.Delete(l.letters, at, at+1)
	}
	return x, true
}

// TestP10_12DoneOnce lets clients ask over lines that lose, double and delay letters both ways.
func TestP10_12DoneOnce(t *testing.T) {
	random := rand.New(rand.NewPCG(12, 10))
	answers := 0
	for range 40 {
		x := someShop(random)
		s := newServer(t, x, nil)
		there, back := line{random: random}, line{random: random}
		clients, asked, heard := map[int]*shop.Client{}, map[int][]string{}, map[int][]string{}
		for _, n := range []int{1, 7, 20} {
			clients[n] = newClient(t, n)
		}
		var done []string // what the server is to have done, in its order, and what it is to have answered
		want, count := map[int][]string{}, map[int]int{}
		for step := range 600 {
			n := []int{1, 7, 20}[random.IntN(3)]
			switch random.IntN(4) {
			case 0:
				text := someFact(random, step/20)
				if l, e := clients[n].Ask(text); e == api.OK {
					asked[n] = append(asked[n], text)
					there.send(l)
				}
			case 1:
				if l, is := clients[n].Again(); is {
					there.send(l)
				}
			case 2:
				l, is := there.arrive()
				if !is {
					continue
				}
				if l.Number == count[l.Client]+1 { // the next one: it is done now
					count[l.Client]++
					e := refusalBy(x, done, l.Text)
					if want[l.Client] = append(want[l.Client], errorText(e)); e == api.OK {
						want[l.Client][l.Number-1] = "ok"
						done = append(done, l.Text)
					}
				}
				if answer, is := s.Hear(l); is {
					back.send(answer)
				}
				if !slices.Equal(s.Facts(), done) {
					t.Fatal(s.Facts(), done)
				}
			case 3:
				if l, is := back.arrive(); is {
					if text, isHeard := clients[l.Client].Hear(l); isHeard {
						heard[l.Client] = append(heard[l.Client], text)
						answers++
					}
				}
			}
		}
		for n := range clients {
			if k := len(asked[n]); count[n] > k || len(heard[n]) > k || len(heard[n]) < k-1 || !slices.Equal(heard[n], want[n][:len(heard[n])]) {
				t.Fatal(asked[n], heard[n], want[n])
			}
		}
	}
	if answers < 1000 {
		t.Error("too few", answers)
	}
}
