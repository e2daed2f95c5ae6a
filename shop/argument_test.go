package shop_test

import (
	"math"
	"math/rand/v2"
	"slices"
	"strings"
	"testing"

	"speculum/api"
	"speculum/shop"
)

// roomy is a copy of a list that has room behind it, where something would be noticed that is appended.
func roomy[T any](l []T) []T {
	return slices.Grow(slices.Clone(l), 9)
}

// kept is the check that all of the memory of a list is as it was.
func kept[T comparable](t *testing.T, l []T) func() {
	before := slices.Clone(l[:cap(l)])
	return func() {
		t.Helper()
		if !slices.Equal(before, l[:cap(l)]) {
			t.Error("written into an argument", before, l[:cap(l)])
		}
	}
}

// wipe clears all of the memory of a result.
func wipe[T any](l []T) {
	clear(l[:cap(l)])
}

// roomyShop is a shop whose lists have room behind them, and the checks that they are as they were.
func roomyShop(t *testing.T) (api.Shop, []func()) {
	x := fullShop()
	x.Batches, x.Strokes, x.Demand.Low, x.Demand.High = roomy(x.Batches), roomy(x.Strokes), roomy(x.Demand.Low), roomy(x.Demand.High)
	checks := []func(){kept(t, x.Batches), kept(t, x.Demand.Low), kept(t, x.Demand.High)}
	for i := range x.Strokes {
		x.Strokes[i].Wear = roomy(x.Strokes[i].Wear)
		checks = append(checks, kept(t, x.Strokes[i].Wear))
	}
	return x, checks
}

// TestP1Arguments checks that nothing is written into arguments, and that results share no memory with them.
func TestP1Arguments(t *testing.T) {
	x, checks := roomyShop(t)
	facts, p, w := roomy(fullFacts()), validPapers(), validWorks()
	p.l, p.readings, w.l, w.starts = roomy(p.l), roomy(p.readings), roomy(w.l), roomy(w.starts)
	checks = append(checks, kept(t, facts), kept(t, p.l), kept(t, p.readings), kept(t, w.starts))
	for i := range w.l {
		w.l[i].After = roomy(w.l[i].After)
		checks = append(checks, kept(t, w.l[i].After))
	}
	v := visit{x, facts, "session m2 s 1", "m1"}
	for range 2 { // again, as results depend on the arguments only
		if e := agree(t, visitError(t, v), papersError(t, p), worksError(t, w)); e != api.OK || len(x.Strokes[:3][2].Wear) != 0 || w.l[:5][4].Name != "" {
			t.Error(e)
		}
		s, _, _ := shop.StateOf(x, facts)
		checkState(t, x, facts, s)
		wipeState(s)
		more, _ := shop.Accept(x, facts, v.text)
		same, _ := shop.Do(x, facts, "earned")
		done, _ := shop.Do(x, facts, "do "+v.text)
		certificates, _ := shop.Certificates(x, facts, "m1")
		signed, _ := shop.Signed(x, facts, "m1")
		starts, _ := shop.Schedule(w.l)
		if want := append(slices.Clone(facts), v.text); !slices.Equal(more, want) || !slices.Equal(done, want) || !slices.Equal(same, facts) {
			t.Error(more, done, same)
		}
		if !slices.Equal(certificates, certificatesBy(x, facts, "m1")) || !slices.Equal(signed, readingsOf(facts, "m1")) || !slices.Equal(starts, w.starts) {
			t.Error(certificates, signed, starts)
		}
		recovered, _ := shop.Recover(journalBy(facts))
		if !slices.Equal(recovered, facts) {
			t.Error(recovered)
		}
		wipe(certificates)
		wipe(signed)
		wipe(starts)
		for _, l := range [][]string{more, same, done, recovered} {
			wipe(l)
		}
	}
	for _, check := range checks {
		check()
	}
}

// wipeState clears the lists of a state.
func wipeState(s api.ShopState) {
	wipe(s.Orders)
	wipe(s.Promises)
	wipe(s.Sessions)
	wipe(s.Readings)
	wipe(s.Coatings)
	wipe(s.Certificates)
	wipe(s.Deliveries)
}

// TestP1Facts checks that lists of a server's facts are lists of their own.
func TestP1Facts(t *testing.T) {
	s := newServer(t, fullShop(), fullFacts())
	first, second := s.Facts(), s.Facts()
	wipe(first)
	checkAnswer(t, s, letter(1, 1, "session m2 s 1"), "ok", append(fullFacts(), "session m2 s 1")...)
	if !slices.Equal(second, fullFacts()) || len(second[:cap(second)]) > len(second) && second[:cap(second)][len(second)] != "" {
		t.Error(second[:cap(second)])
	}
}

// wild is arguments of all kinds.
type wild struct{ random *rand.Rand }

func (w wild) number() int {
	numbers := []int{math.MinInt, math.MinInt + 1, -1000000000001, -1000000, -2, -1, 0, 1, 2, 3, 5, 10, 40, 41, 100, 1000, 10000, 100000, 10000000, 999999936, 999999937, 1000000000000, 1000000000001, math.MaxInt / 3, math.MaxInt - 1, math.MaxInt}
	return numbers[w.random.IntN(len(numbers))]
}

func (w wild) few() int {
	return []int{0, 1, 2, 3, 4, 10, 11, 40, 60, 61, 200, 201}[w.random.IntN(12)]
}

func (w wild) word() string {
	return append([]string{"a", "b", "m1", "m2", "s", "t"}, badNames...)[w.random.IntN(6+len(badNames))]
}

func (w wild) span() api.Range { return span(w.number(), w.number()) }

// text is a text that is hardly a fact.
func (w wild) text() string {
	word := []string{"order", "promise", "session", "reading", "coat", "sign", "deliver", "do order", "pay", "card", "x"}[w.random.IntN(11)]
	for range w.random.IntN(7) {
		word += " " + w.word()
	}
	return spoilt(w.random, word, []string{" ", "\n", "1", "", "-", "99999999999999999999", strings.Repeat("9", 100)})
}

func (w wild) texts() []string {
	var l []string
	for range w.few() {
		l = append(l, w.text())
	}
	return l
}

func (w wild) shop() api.Shop {
	x := api.Shop{Zones: w.number(), Key: w.number(), Aging: api.Aging{Fresh: w.span(), Loss: w.span(), Back: w.span(), Washes: w.number()}}
	for range w.few() {
		x.Batches = append(x.Batches, api.GlassBatch{Name: w.word(), Diameter: w.number(), Thick: w.number(), Count: w.number()})
		x.Strokes = append(x.Strokes, api.Stroke{Name: w.word(), Wear: []int{w.number()}})
		x.Demand.Low, x.Demand.High = append(x.Demand.Low, w.number()), append(x.Demand.High, w.number())
	}
	return x
}

func (w wild) job() api.Job {
	j := job(w.word(), w.word(), w.word(), w.number())
	for range w.random.IntN(13) {
		j.After = append(j.After, w.word())
	}
	return j
}

func (w wild) papers() papers {
	p := papers{key: w.number()}
	for range w.few() {
		p.l = append(p.l, certificate(w.word(), w.word(), w.number(), w.number(), w.number()))
		p.readings = append(p.readings, readingOf(w.word(), w.number(), w.number(), w.number(), w.number()))
	}
	return p
}

// TestP1AllArguments calls all functions with arguments of all kinds: they return.
func TestP1AllArguments(t *testing.T) {
	w := wild{rand.New(rand.NewPCG(1, 10))}
	for round := range 1500 {
		x, facts := w.shop(), w.texts()
		if round%2 == 0 {
			x = fullShop()
		}
		if round%4 == 0 {
			facts = fullFacts()
		}
		callAll(x, facts, w.text(), w.word())
		var jobs works
		for range w.few() {
			jobs.l, jobs.starts = append(jobs.l, w.job()), append(jobs.starts, w.number())
		}
		callJobs(jobs)
		callJobs(works{someJobs(w.random, w.random.IntN(8), 10000), jobs.starts})
		p := w.papers()
		shop.CheckCertificates(p.key, p.l, p.readings)
		p = validPapers()
		p.l[w.random.IntN(3)].Readings, p.l[w.random.IntN(3)].Number = w.number(), w.number()
		shop.CheckCertificates(p.key, p.l, p.readings)
		shop.SumOf(w.number(), w.text())
		shop.Recover(strings.Join(facts, "\n"))
		shop.Recover(w.text())
	}
}

func callAll(x api.Shop, facts []string, text, mirror string) {
	shop.CheckShop(x)
	shop.ParseOrder(text)
	shop.StateOf(x, facts)
	shop.Accept(x, facts, text)
	shop.Payment(x, facts, mirror)
	shop.Earned(x, facts)
	shop.Certificates(x, facts, mirror)
	shop.Signed(x, facts, mirror)
	shop.Journal(facts)
	shop.Card(x, facts, mirror)
	shop.Do(x, facts, text)
	if s, e := shop.NewServer(x, facts); e == api.OK {
		s.Hear(letter(1, 1, text))
		s.Hear(letter(1, 1, mirror))
		s.Facts()
	}
}

func callJobs(x works) {
	shop.CheckJobs(x.l)
	shop.Schedule(x.l)
	shop.CheckSchedule(x.l, x.starts)
	shop.LeastEnd(x.l)
}
