package grind_test

import (
	"math/rand/v2"
	"slices"
	"strconv"
	"testing"

	"speculum/api"
	"speculum/grind"
)

// polish is the arguments of all functions of strokes, of which valid ones are accepted.
type polish struct {
	l      []api.Stroke
	d      api.GrindDemand
	s      []api.GrindSession
	more   api.GrindSession
	mirror string
	p      api.GrindPlan
	w      api.GrindProof
}

func stroke(name string, wear ...int) api.Stroke {
	return api.Stroke{Name: name, Wear: wear}
}

func session(mirror, stroke string, minutes int) api.GrindSession {
	return api.GrindSession{Mirror: mirror, Stroke: stroke, Minutes: minutes}
}

func asked(low, high []int) api.GrindDemand {
	return api.GrindDemand{Low: low, High: high}
}

func chapterStrokes() []api.Stroke {
	return []api.Stroke{stroke("long", 1, 2, 3), stroke("short", 4, 2, 1)}
}

func chapterDemand() api.GrindDemand {
	return asked([]int{12, 8, 6}, []int{20, 20, 20})
}

func validPolish() polish {
	return polish{
		l:      append(chapterStrokes(), stroke("still", 0, 0, 0)),
		d:      chapterDemand(),
		s:      []api.GrindSession{session("m", "long", 2), session("n", "long", 9), session("m", "short", 3)},
		more:   session("m", "short", 1),
		mirror: "m",
		p:      api.GrindPlan{Minutes: []int{13, 27, 0}, Den: 10},
		w:      api.GrindProof{Low: []int{0, 1, 0}, High: []int{0, 0, 0}, Den: 2},
	}
}

// manyStrokes are as many strokes of as many zones.
func manyStrokes(n, zones int) []api.Stroke {
	var l []api.Stroke
	for i := range n {
		l = append(l, stroke("s"+strconv.Itoa(i), slices.Repeat([]int{i}, zones)...))
	}
	return l
}

func manySessions(n int) []api.GrindSession {
	return slices.Repeat([]api.GrindSession{session("x", "long", 1)}, n)
}

func strokesError(t *testing.T, x polish) api.Errno {
	t.Helper()
	n, e := grind.CheckStrokes(x.l)
	none(t, e, n == 0)
	text, e2 := grind.Print(x.l)
	none(t, e2, text == "")
	return agree(t, e, e2, demandError(t, x), sessionsError(t, x), planError(t, x), weightsError(t, x))
}

func demandError(t *testing.T, x polish) api.Errno {
	t.Helper()
	answer, e := grind.Plan(x.l, x.d)
	none(t, e, answer.Plan.Minutes == nil && answer.Plan.Den == 0 && answer.Weights.Low == nil && answer.Weights.High == nil && answer.Weights.Den == 0)
	return agree(t, grind.CheckDemand(x.l, x.d), e, moreError(t, x), leftError(t, x), rightError(t, x), proofError(t, x), refusalError(t, x), compareError(t, x))
}

func sessionsError(t *testing.T, x polish) api.Errno {
	t.Helper()
	return agree(t, grind.CheckSessions(x.l, x.s), moreError(t, x), mirrorError(t, x))
}

func mirrorError(t *testing.T, x polish) api.Errno {
	t.Helper()
	w, e := grind.WearOf(x.l, x.s, x.mirror)
	none(t, e, w == nil)
	return agree(t, e, leftError(t, x))
}

func moreError(t *testing.T, x polish) api.Errno {
	t.Helper()
	l, e := grind.AddSession(x.l, x.d, x.s, x.more)
	none(t, e, l == nil)
	if e == api.OK && !slices.Equal(l, append(slices.Clone(x.s), x.more)) {
		t.Error("not one more behind them", x, l)
	}
	return e
}

func leftError(t *testing.T, x polish) api.Errno {
	t.Helper()
	d, e := grind.LeftFor(x.l, x.d, x.s, x.mirror)
	none(t, e, d.Low == nil && d.High == nil)
	return e
}

// strokeFaults are the faults of the stroke i of three.
func strokeFaults(i int) []fault[polish] {
	other := ""
	if i > 0 {
		other = "long"
	}
	l := nameFaults(func(x *polish) *string { return &x.l[i].Name }, other)
	for _, zones := range []int{0, 1, 2, 4, 41} {
		if zones == 0 || zones > 40 || i > 0 { // any other number from 1 to 40 is right for the first stroke
			l = append(l, fault[polish]{func(x *polish) { x.l[i].Wear = make([]int, zones) }, api.ErrShape})
		}
	}
	for zone := range 3 {
		l = append(l, numberFaults(func(x *polish) *int { return &x.l[i].Wear[zone] }, 0, 100, api.ErrRange)...)
	}
	return l
}

func allStrokeFaults() []fault[polish] {
	return slices.Concat([]fault[polish]{
		{func(x *polish) { x.l = x.l[:0] }, api.ErrShape},
		{func(x *polish) { x.l = append(x.l[:len(x.l):len(x.l)], manyStrokes(10, 3)...) }, api.ErrLarge},
	}, strokeFaults(0), strokeFaults(1))
}

func TestP4_2Strokes(t *testing.T) {
	checkFaults(t, validPolish, strokesError, someFaults(allStrokeFaults()))
	for _, x := range []struct {
		l    []api.Stroke
		n    int
		want api.Errno
	}{
		{chapterStrokes(), 3, api.OK},
		{nil, 0, api.ErrShape},
		{manyStrokes(12, 40), 40, api.OK},
		{manyStrokes(13, 40), 0, api.ErrLarge},
		{manyStrokes(12, 1), 1, api.OK},
		{manyStrokes(12, 41), 0, api.ErrShape},
		{manyStrokes(1, 0), 0, api.ErrShape},
		{append(manyStrokes(11, 7), stroke("x", 1, 2, 3, 4, 5, 6)), 0, api.ErrShape},
		{append(manyStrokes(11, 7), stroke("x", 1, 2, 3, 4, 5, 6, 7, 8)), 0, api.ErrShape},
		{append(manyStrokes(11, 7), stroke("x")), 0, api.ErrShape},
		{append(manyStrokes(11, 7), stroke("x", 1, 2, 3, 4, 5, 6, 100)), 7, api.OK},
		{append(manyStrokes(11, 7), stroke("x", 1, 2, 3, 4, 5, 6, 101)), 0, api.ErrRange},
		{append(manyStrokes(11, 7), stroke("s10", 1, 2, 3, 4, 5, 6, 101)), 0, api.ErrExists},
		{[]api.Stroke{stroke("a", 0)}, 1, api.OK}, // a stroke without wear
		{[]api.Stroke{stroke("a", -1), stroke("")}, 0, api.ErrRange},
		{[]api.Stroke{stroke("a", 1), stroke("a", 1, 2), stroke("")}, 0, api.ErrExists},
	} {
		if n, e := grind.CheckStrokes(x.l); n != x.n || e != x.want {
			t.Error(x, n, e)
		}
	}
	for _, name := range names {
		if n, e := grind.CheckStrokes([]api.Stroke{stroke("y", 1), stroke(name, 1)}); n != 1 || e != api.OK {
			t.Error(name, n, e)
		}
	}
}

// someFaults leaves out most of the wrong names, which are tested one by one.
func someFaults(l []fault[polish]) []fault[polish] {
	var some []fault[polish]
	for i, f := range l {
		if f.want != api.ErrName || i%4 == 0 {
			some = append(some, f)
		}
	}
	return some
}

func TestP4_2WrongNames(t *testing.T) {
	for _, name := range badNames {
		for i := range 3 {
			x := validPolish()
			x.l[i].Name = name
			if e := strokesError(t, x); e != api.ErrName {
				t.Error(name, e)
			}
		}
	}
}

func demandFaults() []fault[polish] {
	var l []fault[polish]
	for _, count := range []int{0, 1, 2, 4, 41} {
		l = append(l, fault[polish]{func(x *polish) { x.d.Low = make([]int, count) }, api.ErrShape})
		l = append(l, fault[polish]{func(x *polish) { x.d.High = make([]int, count) }, api.ErrShape})
	}
	for zone := range 3 {
		l = slices.Concat(l,
			numberFaults(func(x *polish) *int { return &x.d.Low[zone] }, 0, 10000, api.ErrRange),
			numberFaults(func(x *polish) *int { return &x.d.High[zone] }, 0, 10000, api.ErrRange),
			[]fault[polish]{{func(x *polish) { x.d.Low[zone], x.d.High[zone] = 13, 12 }, api.ErrOrder}},
		)
	}
	return l
}

func TestP4_2Demand(t *testing.T) {
	checkFaults(t, validPolish, demandError, slices.Concat(someFaults(strokeFaults(1)), demandFaults()))
	isValid := func(t *testing.T, x polish) api.Errno { return grind.CheckDemand(x.l, x.d) }
	checkLimits(t, validPolish, isValid, func(x *polish) *int { return &x.d.Low[1] }, 0, 20)
	checkLimits(t, validPolish, isValid, func(x *polish) *int { return &x.d.High[1] }, 8, 10000)
	for _, x := range []struct {
		d    api.GrindDemand
		want api.Errno
	}{
		{asked([]int{0, 0, 0}, []int{0, 0, 0}), api.OK},
		{asked([]int{10000, 10000, 10000}, []int{10000, 10000, 10000}), api.OK},
		{asked([]int{0, 0, 10001}, []int{0, 0, 10001}), api.ErrRange},
		{asked([]int{5, 0, 10001}, []int{4, 0, 10001}), api.ErrOrder}, // zone by zone
		{asked([]int{5, 0}, []int{5, 0}), api.ErrShape},
		{asked([]int{-1, 0}, []int{5, 0, 0}), api.ErrShape},
		{asked([]int{-1, 0, 0}, []int{5, 0}), api.ErrShape},
		{asked(nil, nil), api.ErrShape},
		{asked([]int{0, 0, 0}, nil), api.ErrShape},
		{asked(nil, []int{0, 0, 0}), api.ErrShape},
	} {
		if e := grind.CheckDemand(chapterStrokes(), x.d); e != x.want {
			t.Error(x, e)
		}
	}
}

func sessionFaults(of func(x *polish) *api.GrindSession) []fault[polish] {
	l := nameFaults(func(x *polish) *string { return &of(x).Mirror }, "")
	for _, name := range []string{"", "m", "Long", "long ", "lon", "longs", "abcdefghijklm"} {
		l = append(l, fault[polish]{func(x *polish) { of(x).Stroke = name }, api.ErrMissing})
	}
	return append(l, numberFaults(func(x *polish) *int { return &of(x).Minutes }, 1, 10000, api.ErrRange)...)
}

func allSessionFaults() []fault[polish] {
	return slices.Concat(
		[]fault[polish]{{func(x *polish) { x.s = append(x.s[:3:3], manySessions(198)...) }, api.ErrLarge}},
		sessionFaults(func(x *polish) *api.GrindSession { return &x.s[0] }),
		sessionFaults(func(x *polish) *api.GrindSession { return &x.s[1] }),
	)
}

func TestP4_3Sessions(t *testing.T) {
	valid := func() polish { // a mirror that is worn nowhere too much by far
		x := validPolish()
		x.d.High = []int{10000, 10000, 10000}
		return x
	}
	checkFaults(t, valid, sessionsError, slices.Concat(someFaults(strokeFaults(1)), allSessionFaults()))
	isValid := func(t *testing.T, x polish) api.Errno { return grind.CheckSessions(x.l, x.s) }
	checkLimits(t, valid, isValid, func(x *polish) *int { return &x.s[1].Minutes }, 1, 10000)
	for n, want := range map[int]api.Errno{0: api.OK, 200: api.OK, 201: api.ErrLarge, 5000: api.ErrLarge} {
		if e := grind.CheckSessions(chapterStrokes(), manySessions(n)); e != want {
			t.Error(n, e)
		}
	}
	for _, name := range names {
		if e := grind.CheckSessions(chapterStrokes(), []api.GrindSession{session(name, "long", 1)}); e != api.OK {
			t.Error(name, e)
		}
	}
}

func TestP4_3WearOf(t *testing.T) {
	mirrorFaults := nameFaults(func(x *polish) *string { return &x.mirror }, "")
	checkFaults(t, validPolish, mirrorError, slices.Concat(someFaults(strokeFaults(1)), someFaults(allSessionFaults()), mirrorFaults))
	x := validPolish()
	for mirror, want := range map[string][]int{"m": {14, 10, 9}, "n": {9, 18, 27}, "x": {0, 0, 0}, "M": {0, 0, 0}} {
		if w, e := grind.WearOf(x.l, x.s, mirror); !slices.Equal(w, want) || e != api.OK {
			t.Error(mirror, w, e)
		}
	}
	if w, e := grind.WearOf(x.l, nil, "m"); !slices.Equal(w, []int{0, 0, 0}) || e != api.OK {
		t.Error(w, e)
	}
	if w, e := grind.WearOf(x.l, []api.GrindSession{session("m", "still", 10000)}, "m"); !slices.Equal(w, []int{0, 0, 0}) || e != api.OK {
		t.Error(w, e)
	}
	most := slices.Repeat([]api.GrindSession{session("m", "s", 10000)}, 200)
	if w, e := grind.WearOf([]api.Stroke{stroke("s", 100, 1, 0)}, most, "m"); !slices.Equal(w, []int{200000000, 2000000, 0}) || e != api.OK {
		t.Error(w, e)
	}
}

func TestP4_3AddSession(t *testing.T) {
	tooMuch := func(minutes int) fault[polish] {
		return fault[polish]{func(x *polish) { x.more.Stroke, x.more.Minutes = "short", minutes }, api.ErrBreak}
	}
	checkFaults(t, validPolish, moreError, slices.Concat(
		someFaults(strokeFaults(1)),
		demandFaults(),
		someFaults(allSessionFaults()),
		sessionFaults(func(x *polish) *api.GrindSession { return &x.more }),
		[]fault[polish]{tooMuch(2), tooMuch(10000)},
	))
	for _, x := range []struct {
		more api.GrindSession
		want api.Errno
	}{
		{session("m", "short", 1), api.OK},
		{session("m", "short", 2), api.ErrBreak}, // 22 in zone 0
		{session("m", "long", 3), api.OK},
		{session("m", "long", 4), api.ErrBreak}, // 21 in zone 2
		{session("m", "still", 10000), api.OK},
		{session("x", "short", 5), api.OK}, // 20 in zone 0
		{session("x", "short", 6), api.ErrBreak},
		{session("n", "still", 1), api.ErrBreak}, // it is worn too much before
		{session("m", "wide", 2), api.ErrMissing},
		{session("", "wide", 0), api.ErrName},
		{session("m", "short", 0), api.ErrRange},
	} {
		v := validPolish()
		v.more = x.more
		if e := moreError(t, v); e != x.want {
			t.Error(x, e)
		}
	}
	full := validPolish()
	full.s = slices.Repeat([]api.GrindSession{session("x", "still", 1)}, 199)
	if e := moreError(t, full); e != api.OK {
		t.Error(e)
	}
	full.s = append(full.s, full.s[0])
	if e := moreError(t, full); e != api.ErrLarge {
		t.Error(e)
	}
	full.more = session("", "", 0)
	if e := moreError(t, full); e != api.ErrLarge {
		t.Error(e)
	}
	full.s[199].Minutes = 0
	if e := moreError(t, full); e != api.ErrRange {
		t.Error(e)
	}
}

func sameDemand(a, b api.GrindDemand) bool {
	return slices.Equal(a.Low, b.Low) && slices.Equal(a.High, b.High)
}

func TestP4_3LeftFor(t *testing.T) {
	mirrorFaults := nameFaults(func(x *polish) *string { return &x.mirror }, "")
	checkFaults(t, validPolish, leftError, slices.Concat(
		someFaults(strokeFaults(1)), demandFaults(), someFaults(allSessionFaults()), mirrorFaults,
		[]fault[polish]{{func(x *polish) { x.mirror = "n" }, api.ErrBreak}},
	))
	x := validPolish()
	for _, c := range []struct {
		low, high []int
		s         []api.GrindSession
		want      api.GrindDemand
		e         api.Errno
	}{
		{x.d.Low, x.d.High, x.s, asked([]int{0, 0, 0}, []int{6, 10, 11}), api.OK},
		{x.d.Low, x.d.High, x.s[:1], asked([]int{10, 4, 0}, []int{18, 16, 14}), api.OK},
		{x.d.Low, x.d.High, x.s[1:2], x.d, api.OK},
		{x.d.Low, x.d.High, nil, x.d, api.OK},
		{[]int{14, 10, 9}, []int{14, 10, 9}, x.s, asked([]int{0, 0, 0}, []int{0, 0, 0}), api.OK},
		{[]int{15, 11, 10}, []int{15, 12, 10}, x.s, asked([]int{1, 1, 1}, []int{1, 2, 1}), api.OK},
		{[]int{0, 0, 0}, []int{13, 10, 9}, x.s, api.GrindDemand{}, api.ErrBreak},
		{[]int{0, 0, 0}, []int{14, 9, 9}, x.s, api.GrindDemand{}, api.ErrBreak},
		{[]int{0, 0, 0}, []int{14, 10, 8}, x.s, api.GrindDemand{}, api.ErrBreak},
	} {
		if d, e := grind.LeftFor(x.l, asked(c.low, c.high), c.s, "m"); !sameDemand(d, c.want) || e != c.e {
			t.Error(c, d, e)
		}
	}
}

// someStrokes are strokes of zones, of which some wear little.
func someStrokes(random *rand.Rand, count, zones, most int) []api.Stroke {
	l := manyStrokes(count, zones)
	for i := range l {
		for zone := range zones {
			l[i].Wear[zone] = random.IntN(most + 1)
			if random.IntN(4) == 0 {
				l[i].Wear[zone] = 0
			}
		}
	}
	return l
}

// someDemand has so great a wear that not all sessions are possible.
func someDemand(random *rand.Rand, zones, width int) api.GrindDemand {
	var d api.GrindDemand
	for range zones {
		low := random.IntN(width)
		d.Low = append(d.Low, low)
		d.High = append(d.High, min(10000, low+random.IntN(width)))
	}
	return d
}

func TestP4_9WearAddsUp(t *testing.T) {
	random := rand.New(rand.NewPCG(4, 9))
	counts := map[api.Errno]int{}
	for range 2000 {
		zones := 1 + random.IntN(6)
		l := someStrokes(random, 1+random.IntN(5), zones, 9)
		someSession := func() api.GrindSession {
			return session(names[random.IntN(3)], l[random.IntN(len(l))].Name, 1+random.IntN(12))
		}
		var s []api.GrindSession
		byHand := map[string][]int{}
		for range random.IntN(12) {
			x := someSession()
			s = append(s, x)
			n, _ := strconv.Atoi(x.Stroke[1:])
			w := append(byHand[x.Mirror], make([]int, zones-len(byHand[x.Mirror]))...)
			for zone := range w {
				w[zone] += x.Minutes * l[n].Wear[zone]
			}
			byHand[x.Mirror] = w
		}
		cut := random.IntN(len(s) + 1)
		shuffled := slices.Clone(s)
		random.Shuffle(len(s), func(i, j int) { shuffled[i], shuffled[j] = shuffled[j], shuffled[i] })
		for _, mirror := range names[:4] {
			own := slices.DeleteFunc(slices.Clone(s), func(x api.GrindSession) bool { return x.Mirror != mirror })
			whole, e1 := grind.WearOf(l, s, mirror)
			front, e2 := grind.WearOf(l, s[:cut], mirror)
			behind, e3 := grind.WearOf(l, s[cut:], mirror)
			alone, e4 := grind.WearOf(l, own, mirror)
			mixed, e5 := grind.WearOf(l, shuffled, mirror)
			if agree(t, e1, e2, e3, e4, e5) != api.OK || !slices.Equal(whole, alone) || !slices.Equal(whole, mixed) {
				t.Fatal(l, s, mirror, whole, alone, mixed)
			}
			for zone := range whole {
				if whole[zone] != front[zone]+behind[zone] || byHand[mirror] != nil && whole[zone] != byHand[mirror][zone] {
					t.Fatal(l, s, mirror, whole, front, behind, byHand)
				}
			}
		}
		counts[checkGrowth(t, random, l, someSession)]++
	}
	if counts[api.OK] < 300 || counts[api.ErrBreak] < 300 {
		t.Error("too few of a kind", counts)
	}
}

// checkGrowth adds sessions as long as a demand allows them, and checks what is left of it.
func checkGrowth(t *testing.T, random *rand.Rand, l []api.Stroke, someSession func() api.GrindSession) api.Errno {
	t.Helper()
	zones := len(l[0].Wear)
	d := someDemand(random, zones, 200)
	var s []api.GrindSession
	var last api.Errno
	for range 8 {
		x := someSession()
		more, e := grind.AddSession(l, d, s, x)
		w, e2 := grind.WearOf(l, append(slices.Clone(s), x), x.Mirror)
		fits := true
		for zone := range w {
			fits = fits && w[zone] <= d.High[zone]
		}
		if e2 != api.OK || fits != (e == api.OK) || !fits && e != api.ErrBreak {
			t.Fatal(l, d, s, x, w, e)
		}
		if last = e; e == api.OK {
			s = more
		}
	}
	cut := random.IntN(len(s) + 1)
	for _, mirror := range names[:4] {
		left, e := grind.LeftFor(l, d, s[:cut], mirror)
		further, e2 := grind.WearOf(l, s[cut:], mirror)
		whole, e3 := grind.WearOf(l, s, mirror)
		if agree(t, e, e2, e3) != api.OK || grind.CheckDemand(l, left) != api.OK {
			t.Fatal(l, d, s, left)
		}
		for zone, w := range further { // the further wear reaches what is left just if all wear reaches the demand
			isReached := left.Low[zone] <= w && w <= left.High[zone]
			if isReached != (d.Low[zone] <= whole[zone] && whole[zone] <= d.High[zone]) {
				t.Fatal(l, d, s, mirror, left, further, whole)
			}
		}
	}
	return last
}
