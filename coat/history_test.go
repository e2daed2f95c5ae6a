package coat_test

import (
	"math"
	"math/rand/v2"
	"regexp"
	"slices"
	"strconv"
	"testing"

	"speculum/api"
	"speculum/coat"
)

// career is the arguments of all functions of histories, of which valid ones are accepted.
type career struct {
	a     api.Aging
	l     []api.CoatEvent
	x     api.CoatEvent
	day   int
	least int
}

func event(mirror string, day, kind int) api.CoatEvent {
	return api.CoatEvent{Mirror: mirror, Day: day, Kind: kind}
}

// chapterAging is the aging of the chapter's examples.
func chapterAging() api.Aging {
	return api.Aging{Fresh: span(900, 910), Loss: span(20, 30), Back: span(10, 20), Washes: 1}
}

// chapterHistory is the history of the chapter's examples.
func chapterHistory() []api.CoatEvent {
	return []api.CoatEvent{event("m", 100, api.CoatPut), event("m", 600, api.CoatWash)}
}

func validCareer() career {
	return career{chapterAging(), append([]api.CoatEvent{event("m", 50, api.CoatPut), event("m", 80, api.CoatStrip)}, chapterHistory()...), event("m", 700, api.CoatStrip), 700, 890}
}

// historyError is the error of CheckHistory, with the number of the event.
func historyError(t *testing.T, x career) (int, api.Errno) {
	t.Helper()
	n, e := coat.CheckHistory(x.a, x.l)
	if e == api.OK && n != 0 {
		t.Error("a number without an error", n)
	}
	return n, e
}

func nextError(t *testing.T, x career) api.Errno {
	t.Helper()
	l, e := coat.Next(x.a, x.l, x.x)
	none(t, e, l == nil)
	return e
}

// dayError is the error of those that have one of a day, if the mirror is coated on that day.
func dayError(t *testing.T, x career) api.Errno {
	t.Helper()
	kinds, e := coat.Allowed(x.a, x.l, x.day)
	none(t, e, kinds == nil)
	left, e2 := coat.StateOn(x.a, x.l, x.day)
	none(t, e2, left == 0)
	return agree(t, e, e2, brightError(t, x))
}

func brightError(t *testing.T, x career) api.Errno {
	t.Helper()
	r, e := coat.Bright(x.a, x.l, x.day)
	none(t, e, r == api.Range{})
	return e
}

func dueError(t *testing.T, x career) api.Errno {
	t.Helper()
	days, e := coat.DueDays(x.a, x.l, x.least)
	none(t, e, days == [2]int{})
	return e
}

// careerError is the error of all functions of histories, if the other arguments are valid.
func careerError(t *testing.T, x career) api.Errno {
	t.Helper()
	_, e := historyError(t, x)
	return agree(t, e, nextError(t, x), dayError(t, x), dueError(t, x))
}

func agingFaults() []fault[career] {
	faults := rangeFaults(func(x *career) *api.Range { return &x.a.Fresh }, 0, 1000)
	faults = append(faults, rangeFaults(func(x *career) *api.Range { return &x.a.Loss }, 0, 1000)...)
	faults = append(faults, rangeFaults(func(x *career) *api.Range { return &x.a.Back }, 0, 1000)...)
	return append(faults, numberFaults(func(x *career) *int { return &x.a.Washes }, 0, 100, api.ErrRange)...)
}

// manyEvents puts a coating on and strips it again and again.
func manyEvents(n int) []api.CoatEvent {
	var l []api.CoatEvent
	for i := range n {
		l = append(l, event("m", i, i%2*api.CoatStrip))
	}
	return l
}

// eventFaults are the faults that an event alone may have.
func eventFaults(field func(x *career) *api.CoatEvent) []fault[career] {
	faults := nameFaults(func(x *career) *string { return &field(x).Mirror }, "")
	faults = append(faults, numberFaults(func(x *career) *int { return &field(x).Day }, 0, 100000, api.ErrRange)...)
	return append(faults, numberFaults(func(x *career) *int { return &field(x).Kind }, 0, 2, api.ErrKind)...)
}

// laterFaults are the faults that an event behind another one has: the last ones stand for a state that is not right.
func laterFaults(field func(x *career) *api.CoatEvent, before int, wrong ...int) []fault[career] {
	faults := eventFaults(field)
	for _, name := range []string{"M", "mm", "n"} {
		faults = append(faults, fault[career]{func(x *career) { field(x).Mirror = name }, api.ErrClash})
	}
	faults = append(faults,
		fault[career]{func(x *career) { field(x).Day = before - 1 }, api.ErrOrder},
		fault[career]{func(x *career) { field(x).Day = 0 }, api.ErrOrder},
	)
	for _, kind := range wrong {
		faults = append(faults, fault[career]{func(x *career) { field(x).Kind = kind }, api.ErrState})
	}
	return faults
}

// historyFaults are the faults of a history of four events.
func historyFaults() []fault[career] {
	faults := append(agingFaults(),
		fault[career]{func(x *career) { x.l = make([]api.CoatEvent, 41) }, api.ErrLarge},
		fault[career]{func(x *career) { x.l = manyEvents(41) }, api.ErrLarge},
	)
	at := func(i int) func(x *career) *api.CoatEvent { return func(x *career) *api.CoatEvent { return &x.l[i] } }
	faults = append(faults, eventFaults(at(0))...)
	faults = append(faults, fault[career]{func(x *career) { x.l[0].Kind = 1 }, api.ErrState}, fault[career]{func(x *career) { x.l[0].Kind = 2 }, api.ErrState})
	faults = append(faults, laterFaults(at(1), 50, api.CoatPut)...)
	faults = append(faults, laterFaults(at(2), 80, api.CoatWash, api.CoatStrip)...)
	faults = append(faults, laterFaults(at(3), 100, api.CoatPut)...)
	return append(faults, fault[career]{func(x *career) { x.a.Washes = 0 }, api.ErrFull})
}

func agingError(_ *testing.T, x career) api.Errno {
	return coat.CheckAging(x.a)
}

func TestP8_5AgingFaults(t *testing.T) {
	checkFaults(t, validCareer, agingError, agingFaults())
	checkLimits(t, validCareer, agingError, func(x *career) *int { return &x.a.Washes }, 0, 100)
	for _, r := range []api.Range{span(0, 0), span(0, 1000), span(1000, 1000), span(500, 501)} {
		if e := coat.CheckAging(api.Aging{Fresh: r, Loss: r, Back: r}); e != api.OK {
			t.Error(r, e)
		}
	}
}

func TestP8_5HistoryFaults(t *testing.T) {
	checkFaults(t, validCareer, careerError, historyFaults())
}

// TestP8_5Numbers checks which event is named.
func TestP8_5Numbers(t *testing.T) {
	for i := range 40 {
		for _, c := range []struct {
			spoil func(x *api.CoatEvent)
			want  api.Errno
		}{
			{func(x *api.CoatEvent) { x.Mirror = "" }, api.ErrName},
			{func(x *api.CoatEvent) { x.Day = -1 }, api.ErrRange},
			{func(x *api.CoatEvent) { x.Kind = 3 }, api.ErrKind},
			{func(x *api.CoatEvent) { x.Kind = (i + 1) % 2 * api.CoatStrip }, api.ErrState},
		} {
			for _, a := range []api.Aging{{}, chapterAging()} {
				x := career{a: a, l: manyEvents(40)}
				for j := i; j < 40; j += 7 {
					c.spoil(&x.l[j])
				}
				if n, e := historyError(t, x); n != i || e != c.want {
					t.Error(i, n, e, c.want)
				}
				x.a.Washes = -1
				if n, e := historyError(t, x); n != 0 || e != api.ErrRange {
					t.Error(i, n, e)
				}
			}
		}
		if i > 0 {
			l := manyEvents(40)
			l[i].Mirror = "n"
			if n, e := historyError(t, career{l: l}); n != i || e != api.ErrClash {
				t.Error(i, n, e)
			}
			l[i] = event("m", i-2, l[i].Kind)
			if n, e := historyError(t, career{l: l}); n != i || e != map[bool]api.Errno{true: api.ErrOrder, false: api.ErrRange}[i > 1] {
				t.Error(i, n, e)
			}
		}
	}
	for _, l := range [][]api.CoatEvent{manyEvents(41), make([]api.CoatEvent, 41), make([]api.CoatEvent, 100)} {
		if n, e := historyError(t, career{l: l}); n != 0 || e != api.ErrLarge {
			t.Error(n, e)
		}
	}
	if n, e := historyError(t, career{l: []api.CoatEvent{event("m", 0, 0), event("m", 1, 0)}}); n != 1 || e != api.ErrState {
		t.Error(n, e)
	}
	for _, l := range [][]api.CoatEvent{nil, {}, manyEvents(40), {event("m", 100000, 0), event("m", 100000, 2), event("m", 100000, 0)}} {
		if n, e := historyError(t, career{l: l}); n != 0 || e != api.OK {
			t.Error(l, n, e)
		}
	}
}

// rightKinds is the form of the kinds of right histories.
func rightKinds(washes int) *regexp.Regexp {
	most := strconv.Itoa(washes)
	return regexp.MustCompile(`\A(01{0,` + most + `}2)*(01{0,` + most + `})?\z`)
}

// wrongKind is the first event whose kind is not possible, and its error, by the form of kinds.
func wrongKind(kinds string, form *regexp.Regexp) (int, api.Errno) {
	for i := range kinds {
		if form.MatchString(kinds[:i+1]) {
			continue
		}
		if i > 0 && kinds[i] == '1' && kinds[i-1] != '2' {
			return i, api.ErrFull
		}
		return i, api.ErrState
	}
	return 0, api.OK
}

// TestP8_5AllKinds goes through all lists of a few kinds.
func TestP8_5AllKinds(t *testing.T) {
	lists := []string{""}
	for i := 0; len(lists[i]) < 7; i++ {
		lists = append(lists, lists[i]+"0", lists[i]+"1", lists[i]+"2")
	}
	counts := map[api.Errno]int{}
	for washes := range 4 {
		form := rightKinds(washes)
		for _, kinds := range lists {
			var l []api.CoatEvent
			for _, kind := range []byte(kinds) {
				l = append(l, event("m", 5, int(kind-'0')))
			}
			n, e := coat.CheckHistory(api.Aging{Washes: washes}, l)
			if n2, e2 := wrongKind(kinds, form); n != n2 || e != e2 {
				t.Fatal(kinds, n, e, n2, e2)
			}
			counts[e]++
		}
	}
	if counts[api.OK] < 100 || counts[api.ErrFull] < 100 || counts[api.ErrState] < 100 {
		t.Error("too few of a kind", counts)
	}
}

// TestP8_5ManyWashes checks that a coating bears up to 100 washes, as far as there is room for their events.
func TestP8_5ManyWashes(t *testing.T) {
	for _, washes := range []int{0, 1, 38, 39, 40, 100} {
		l := []api.CoatEvent{event("m", 0, api.CoatPut)}
		for i := range 39 {
			l = append(l, event("m", i, api.CoatWash))
		}
		n, e := coat.CheckHistory(api.Aging{Washes: washes}, l)
		if washes < 39 && (n != washes+1 || e != api.ErrFull) || washes >= 39 && (n != 0 || e != api.OK) {
			t.Error(washes, n, e)
		}
	}
}

func TestP8_5NextFaults(t *testing.T) {
	faults := append(historyFaults(), laterFaults(func(x *career) *api.CoatEvent { return &x.x }, 600, api.CoatPut)...)
	faults = append(faults, fault[career]{func(x *career) { x.x.Kind = api.CoatWash }, api.ErrFull})
	checkFaults(t, validCareer, nextError, faults)
	first := append(eventFaults(func(x *career) *api.CoatEvent { return &x.x }),
		fault[career]{func(x *career) { x.x.Kind = api.CoatWash }, api.ErrState},
		fault[career]{func(x *career) { x.x.Kind = api.CoatStrip }, api.ErrState},
	)
	checkFaults(t, func() career { return career{x: event("m", 0, api.CoatPut)} }, nextError, first)
}

// TestP8_5NextOfMany checks that there is no room behind 40 events, whose own errors come first.
func TestP8_5NextOfMany(t *testing.T) {
	for _, kind := range []int{-1, 0, 1, 2, 3} {
		if e := nextError(t, career{l: manyEvents(40), x: event("m", 40, kind)}); e != api.ErrLarge {
			t.Error(kind, e)
		}
		x := career{l: manyEvents(40), x: event("m", 40, kind)}
		x.l[39].Mirror = "n"
		if e := nextError(t, x); e != api.ErrClash {
			t.Error(kind, e)
		}
	}
}

func TestP8_5Next(t *testing.T) {
	a := chapterAging()
	var l []api.CoatEvent
	for _, x := range []api.CoatEvent{event("m", 0, 0), event("m", 0, 1), event("m", 0, 2), event("m", 0, 0), event("m", 7, 2), event("m", 100000, 0), event("m", 100000, 1)} {
		more, e := coat.Next(a, l, x)
		if e != api.OK || !slices.Equal(more, append(slices.Clone(l), x)) {
			t.Fatal(l, x, more, e)
		}
		l = more
	}
	for _, x := range []api.CoatEvent{event("m", 38, api.CoatWash), event("m", 38, api.CoatStrip)} {
		if more, e := coat.Next(a, manyEvents(39), x); e != api.OK || !slices.Equal(more, append(manyEvents(39), x)) {
			t.Error(x, more, e)
		}
	}
}

func TestP8_5Allowed(t *testing.T) {
	a := chapterAging()
	put, washed := chapterHistory()[:1], chapterHistory()
	stripped := append(chapterHistory(), event("m", 700, api.CoatStrip))
	a0 := a
	a0.Washes = 0
	for _, c := range []struct {
		a    api.Aging
		l    []api.CoatEvent
		day  int
		want []int
	}{
		{a, washed, 700, []int{2}}, {a, washed, 600, []int{2}}, {a, washed, 599, nil}, {a, washed, 0, nil}, {a, washed, 100000, []int{2}},
		{a, put, 100, []int{1, 2}}, {a, put, 99, nil}, {a, put, 100000, []int{1, 2}}, {a0, put, 100, []int{2}},
		{a, stripped, 700, []int{0}}, {a, stripped, 699, nil}, {a0, nil, 0, []int{0}}, {a, nil, 100000, []int{0}},
		{a, manyEvents(39), 38, []int{1, 2}}, {a, manyEvents(40), 39, nil}, {a, manyEvents(40), 100, nil}, {a, manyEvents(38), 100, []int{0}},
	} {
		if kinds, e := coat.Allowed(c.a, c.l, c.day); !slices.Equal(kinds, c.want) || e != api.OK {
			t.Error(c, kinds, e)
		}
	}
}

func TestP8_6DayFaults(t *testing.T) {
	faults := append(historyFaults(), numberFaults(func(x *career) *int { return &x.day }, 0, 100000, api.ErrRange)...)
	checkFaults(t, validCareer, dayError, faults)
	bare := []fault[career]{
		{func(x *career) { x.day = 0 }, api.ErrState},
		{func(x *career) { x.day = 49 }, api.ErrState},
		{func(x *career) { x.day = 80 }, api.ErrState},
		{func(x *career) { x.day = 99 }, api.ErrState},
		{func(x *career) { x.l = append(x.l, event("m", 600, api.CoatStrip)) }, api.ErrState},
	}
	checkFaults(t, validCareer, brightError, append(faults, bare...))
	checkLimits(t, validCareer, brightError, func(x *career) *int { return &x.day }, 50, 79)
	checkLimits(t, validCareer, dayError, func(x *career) *int { return &x.day }, 100, 100000)
	if e := brightError(t, career{}); e != api.ErrState {
		t.Error(e)
	}
	for _, x := range []career{{day: -1}, {day: 100001}, {day: math.MinInt}, {day: math.MaxInt}} {
		if e := dayError(t, x); e != api.ErrRange {
			t.Error(x, e)
		}
	}
}

func TestP8_6StateOn(t *testing.T) {
	a := chapterAging()
	a3 := a
	a3.Washes = 3
	washes := []api.CoatEvent{event("m", 5, 0), event("m", 5, 1), event("m", 7, 1), event("m", 7, 1), event("m", 9, 2), event("m", 9, 0), event("m", 11, 1), event("m", 12, 2)}
	for _, c := range []struct {
		a         api.Aging
		l         []api.CoatEvent
		day, want int
	}{
		{a, chapterHistory(), 99, -1}, {a, chapterHistory(), 100, 1}, {a, chapterHistory(), 300, 1}, {a, chapterHistory(), 599, 1}, {a, chapterHistory(), 600, 0}, {a, chapterHistory(), 100000, 0}, {a, chapterHistory(), 0, -1},
		{a, nil, 0, -1}, {a, nil, 100000, -1}, {api.Aging{}, []api.CoatEvent{event("m", 0, 0)}, 0, 0}, {api.Aging{Washes: 100}, []api.CoatEvent{event("m", 0, 0)}, 9, 100},
		{a3, washes, 4, -1}, {a3, washes, 5, 2}, {a3, washes, 6, 2}, {a3, washes, 7, 0}, {a3, washes, 8, 0}, {a3, washes, 9, 3}, {a3, washes, 10, 3}, {a3, washes, 11, 2}, {a3, washes, 12, -1}, {a3, washes, 100000, -1},
	} {
		if left, e := coat.StateOn(c.a, c.l, c.day); left != c.want || e != api.OK {
			t.Error(c, left, e)
		}
	}
}

func TestP8_6Bright(t *testing.T) {
	a := chapterAging()
	dim := api.Aging{Fresh: span(100, 1000), Loss: span(999, 1000), Back: span(1, 7), Washes: 2}
	dull := []api.CoatEvent{event("m", 0, 0), event("m", 1000, 1), event("m", 1001, 1)}
	for _, c := range []struct {
		a    api.Aging
		l    []api.CoatEvent
		day  int
		want api.Range
	}{
		{a, chapterHistory(), 100, span(900, 910)}, {a, chapterHistory(), 101, span(899, 910)}, {a, chapterHistory(), 133, span(899, 910)}, {a, chapterHistory(), 134, span(898, 910)}, {a, chapterHistory(), 149, span(898, 910)}, {a, chapterHistory(), 150, span(898, 909)},
		{a, chapterHistory()[:1], 600, span(885, 900)}, {a, chapterHistory(), 599, span(885, 901)}, {a, chapterHistory(), 600, span(895, 910)}, {a, chapterHistory(), 601, span(894, 910)}, {a, chapterHistory(), 1600, span(865, 890)},
		{a, chapterHistory(), 30432, span(0, 314)}, {a, chapterHistory(), 46099, span(0, 1)}, {a, chapterHistory(), 46100, span(0, 0)}, {a, chapterHistory(), 100000, span(0, 0)},
		{a, chapterHistory()[:1], 100000, span(0, 0)},
		{dim, dull, 0, span(100, 1000)}, {dim, dull, 1, span(99, 1000)}, {dim, dull, 99, span(1, 902)}, {dim, dull, 100, span(0, 901)}, {dim, dull, 101, span(0, 900)}, {dim, dull, 999, span(0, 2)},
		{dim, dull, 1000, span(1, 8)}, {dim, dull, 1001, span(1, 15)}, {dim, dull, 1002, span(0, 15)}, {dim, dull, 1003, span(0, 14)},
	} {
		if r, e := coat.Bright(c.a, c.l, c.day); r != c.want || e != api.OK {
			t.Error(c, r, e)
		}
	}
}

// brightBy is the brightness by events from a put on, all of one coating.
func brightBy(a api.Aging, l []api.CoatEvent, day int) api.Range {
	last := l[len(l)-1]
	r := a.Fresh
	if last.Kind == api.CoatWash {
		r = brightBy(a, l[:len(l)-1], last.Day)
		r = span(min(r.Lo+a.Back.Lo, a.Fresh.Lo), min(r.Hi+a.Back.Hi, a.Fresh.Hi))
	}
	days := day - last.Day
	return span(max(0, r.Lo-around(product(a.Loss.Hi, days), product(1000)).Hi), max(0, r.Hi-around(product(a.Loss.Lo, days), product(1000)).Lo))
}

func someRange(random *rand.Rand, most int) api.Range {
	lo := random.IntN(most + 1)
	return span(lo, lo+random.IntN(most+1-lo))
}

func someAging(random *rand.Rand) api.Aging {
	most := []int{3, 60, 1000}[random.IntN(3)]
	return api.Aging{Fresh: someRange(random, 1000), Loss: someRange(random, most), Back: someRange(random, 60), Washes: random.IntN(5)}
}

// someHistory is a right history, whose events are up to so many days apart; it has at most so many of them.
func someHistory(random *rand.Rand, a api.Aging, events, apart int) []api.CoatEvent {
	form := rightKinds(a.Washes)
	var l []api.CoatEvent
	kinds := ""
	day := random.IntN(apart + 1)
	for range events {
		kind := random.IntN(3)
		if next := kinds + strconv.Itoa(kind); form.MatchString(next) {
			kinds = next
			l = append(l, event("m1", day, kind))
			day += random.IntN(apart + 1)
		}
	}
	return l
}

func TestP8_6BrightExactly(t *testing.T) {
	random := rand.New(rand.NewPCG(8, 6))
	coated := 0
	for range 5000 {
		a := someAging(random)
		l := someHistory(random, a, 40, []int{1, 30, 2500}[random.IntN(3)])
		day := random.IntN(100001)
		if len(l) > 0 && random.IntN(2) == 0 {
			day = l[random.IntN(len(l))].Day + random.IntN(3)
		}
		var since []api.CoatEvent // the last put
		for i, x := range l {
			switch {
			case x.Day > day:
			case x.Kind == api.CoatPut:
				since = l[i : i+1]
			case x.Kind == api.CoatStrip:
				since = nil
			default:
				since = since[:len(since)+1]
			}
		}
		left, e := coat.StateOn(a, l, day)
		r, e2 := coat.Bright(a, l, day)
		if since == nil {
			if left != -1 || e != api.OK || e2 != api.ErrState {
				t.Fatal(a, l, day, left, e, r, e2)
			}
			continue
		}
		coated++
		if want := brightBy(a, since, day); left != a.Washes-len(since)+1 || r != want || agree(t, e, e2) != api.OK {
			t.Fatal(a, l, day, left, r, want)
		}
	}
	if coated < 2000 {
		t.Error("too few", coated)
	}
}

func TestP8_6DueFaults(t *testing.T) {
	faults := append(historyFaults(),
		fault[career]{func(x *career) { x.l = append(x.l, event("m", 600, api.CoatStrip)) }, api.ErrState},
	)
	faults = append(faults, numberFaults(func(x *career) *int { return &x.least }, 0, 1000, api.ErrRange)...)
	checkFaults(t, validCareer, dueError, faults)
	checkLimits(t, validCareer, dueError, func(x *career) *int { return &x.least }, 0, 1000)
	for _, l := range [][]api.CoatEvent{nil, validCareer().l[:2]} {
		for _, least := range []int{-1, 0, 890, 1001} {
			if e := dueError(t, career{l: l, a: chapterAging(), least: least}); e != api.ErrState {
				t.Error(l, e)
			}
		}
	}
}

func TestP8_6DueDays(t *testing.T) {
	a := chapterAging()
	kept := api.Aging{Fresh: span(900, 910)}
	last := []api.CoatEvent{event("m", 0, 0), event("m", 100000, 1)}
	for _, c := range []struct {
		a     api.Aging
		l     []api.CoatEvent
		least int
		want  [2]int
	}{
		{a, chapterHistory(), 890, [2]int{767, 1650}}, {a, chapterHistory(), 895, [2]int{601, 1400}}, {a, chapterHistory(), 896, [2]int{600, 1350}}, {a, chapterHistory(), 911, [2]int{600, 600}}, {a, chapterHistory(), 910, [2]int{600, 650}}, {a, chapterHistory(), 1000, [2]int{600, 600}},
		{a, chapterHistory(), 0, [2]int{100001, 100001}}, {a, chapterHistory(), 1, [2]int{30401, 46100}},
		{a, chapterHistory()[:1], 900, [2]int{101, 650}}, {a, chapterHistory()[:1], 901, [2]int{100, 600}},
		{kept, chapterHistory()[:1], 900, [2]int{100001, 100001}}, {kept, chapterHistory()[:1], 901, [2]int{100, 100001}}, {kept, chapterHistory()[:1], 911, [2]int{100, 100}},
		{a, last, 1000, [2]int{100000, 100000}}, {a, last, 11, [2]int{100000, 100001}}, {a, last, 10, [2]int{100001, 100001}}, {a, last, 21, [2]int{100000, 100000}}, {a, last, 20, [2]int{100000, 100001}},
		{api.Aging{Fresh: span(500, 500), Loss: span(1, 1)}, []api.CoatEvent{event("m", 0, 0)}, 401, [2]int{99001, 100000}},
		{api.Aging{Fresh: span(500, 500), Loss: span(1, 1)}, []api.CoatEvent{event("m", 1, 0)}, 401, [2]int{99002, 100001}},
		{api.Aging{Fresh: span(500, 500), Loss: span(1, 1)}, []api.CoatEvent{event("m", 1, 0)}, 400, [2]int{100001, 100001}},
		{api.Aging{Fresh: span(500, 500), Loss: span(1, 1)}, []api.CoatEvent{event("m", 0, 0)}, 400, [2]int{100001, 100001}},
		{api.Aging{Fresh: span(500, 501), Loss: span(1, 1)}, []api.CoatEvent{event("m", 99999, 0)}, 500, [2]int{100000, 100001}},
	} {
		if days, e := coat.DueDays(c.a, c.l, c.least); days != c.want || e != api.OK {
			t.Error(c, days, e)
		}
	}
}

// TestP8_6DueDaysOfAll goes through all days behind the last event.
func TestP8_6DueDaysOfAll(t *testing.T) {
	random := rand.New(rand.NewPCG(8, 66))
	counts := map[bool]int{}
	for range 400 {
		a := someAging(random)
		l := someHistory(random, a, 8, 30)
		by := 99000 - random.IntN(1000)
		for i := range l {
			l[i].Day += by
		}
		least := random.IntN(1001)
		days, e := coat.DueDays(a, l, least)
		if e == api.ErrState {
			continue
		}
		want := [2]int{100001, 100001}
		for day := 100000; day >= l[len(l)-1].Day; day-- {
			r, _ := coat.Bright(a, l, day)
			if r.Lo < least {
				want[0] = day
			}
			if r.Hi < least {
				want[1] = day
			}
		}
		if days != want || e != api.OK {
			t.Fatal(a, l, least, days, e, want)
		}
		counts[days[0] <= 100000 && days[0] > l[len(l)-1].Day]++
	}
	if counts[true] < 20 || counts[false] < 50 {
		t.Error("too few of a kind", counts)
	}
}

// TestP8_10FirstTime checks that the brightness is less than the wanted one on the days of DueDays, and not before.
func TestP8_10FirstTime(t *testing.T) {
	random := rand.New(rand.NewPCG(8, 106))
	found := 0
	for range 5000 {
		a := someAging(random)
		l := someHistory(random, a, 10, 3000)
		least := random.IntN(a.Fresh.Hi + 1)
		days, e := coat.DueDays(a, l, least)
		if e != api.OK {
			continue
		}
		last := l[len(l)-1].Day
		isLess := func(day int) [2]bool {
			r, _ := coat.Bright(a, l, day)
			return [2]bool{r.Lo < least, r.Hi < least}
		}
		for i, day := range days {
			if day < last || day > 100001 || day <= 100000 && !isLess(day)[i] || day > last && isLess(day - 1)[i] {
				t.Fatal(a, l, least, days)
			}
			if last < day && day < 100001 {
				found++
			}
		}
	}
	if found < 1000 {
		t.Error("too few", found)
	}
}

// TestP8_10NeverRises checks that the brightness rises by washes and new coatings only.
func TestP8_10NeverRises(t *testing.T) {
	random := rand.New(rand.NewPCG(8, 107))
	for range 300 {
		a := someAging(random)
		l := someHistory(random, a, 12, 60)
		events := map[int]bool{}
		for _, x := range l {
			events[x.Day] = true
		}
		before, wasCoated := api.Range{}, false
		for day := range 900 {
			r, e := coat.Bright(a, l, day)
			if e == api.OK && (r.Lo > r.Hi || r.Lo < 0 || r.Lo > a.Fresh.Lo || r.Hi > a.Fresh.Hi) {
				t.Fatal(a, l, day, r)
			}
			if !events[day] && ((e == api.OK) != wasCoated || r.Lo > before.Lo || r.Hi > before.Hi) {
				t.Fatal(a, l, day, before, r)
			}
			before, wasCoated = r, e == api.OK
		}
	}
}

func TestP8_10GreaterLoss(t *testing.T) {
	random := rand.New(rand.NewPCG(8, 108))
	for range 3000 {
		a := someAging(random)
		l := someHistory(random, a, 12, 600)
		greater := a
		greater.Loss.Hi += random.IntN(1001 - a.Loss.Hi)
		greater.Loss.Lo += random.IntN(greater.Loss.Hi - a.Loss.Lo + 1)
		day := random.IntN(9000)
		r, e := coat.Bright(a, l, day)
		less, e2 := coat.Bright(greater, l, day)
		if agree(t, e, e2) == api.OK && (less.Lo > r.Lo || less.Hi > r.Hi) {
			t.Fatal(a, greater, l, day, r, less)
		}
	}
}

func TestP8_10Beginnings(t *testing.T) {
	random := rand.New(rand.NewPCG(8, 109))
	for range 1000 {
		a := someAging(random)
		l := someHistory(random, a, 40, 30)
		for i := range len(l) + 1 {
			if n, e := coat.CheckHistory(a, l[:i]); n != 0 || e != api.OK {
				t.Fatal(a, l[:i], n, e)
			}
		}
	}
}

// TestP8_10Accepted checks that Next accepts the kinds that Allowed names, and no others.
func TestP8_10Accepted(t *testing.T) {
	random := rand.New(rand.NewPCG(8, 110))
	counts := map[int]int{}
	for range 3000 {
		a := someAging(random)
		l := someHistory(random, a, random.IntN(90), 9)
		l = l[:min(len(l), 40)]
		mirror, day := "m1", random.IntN(100001)
		if len(l) > 0 {
			day = max(0, l[len(l)-1].Day+random.IntN(3)-1)
		} else {
			mirror = names[random.IntN(len(names))]
		}
		allowed, e := coat.Allowed(a, l, day)
		if e != api.OK {
			t.Fatal(a, l, day, e)
		}
		var accepted []int
		for _, kind := range []int{math.MinInt, -1, 0, 1, 2, 3, math.MaxInt} {
			if _, e := coat.Next(a, l, event(mirror, day, kind)); e == api.OK {
				accepted = append(accepted, kind)
			}
		}
		if !slices.Equal(allowed, accepted) {
			t.Fatal(a, l, day, allowed, accepted)
		}
		counts[len(allowed)]++
	}
	if counts[0] < 100 || counts[1] < 100 || counts[2] < 100 {
		t.Error("too few of a kind", counts)
	}
}
