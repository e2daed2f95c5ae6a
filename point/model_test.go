package point_test

import (
	"math"
	"math/big"
	"math/rand/v2"
	"slices"
	"testing"

	"speculum/api"
	"speculum/point"
)

// observed is the arguments of all functions of stars and models, of which valid ones are accepted.
type observed struct {
	l      []api.SkyStar
	m      api.SkyModel
	shapes []int
}

func star(e int, shapes ...int) api.SkyStar {
	return api.SkyStar{Shapes: shapes, Error: e}
}

func skyModel(den int, terms ...int) api.SkyModel {
	return api.SkyModel{Terms: terms, Den: den}
}

// chapterStars are the stars of the chapter's examples.
func chapterStars() []api.SkyStar {
	return []api.SkyStar{star(1, 1, 0), star(2, 1, 1), star(4, 1, 2)}
}

func validObserved() observed {
	return observed{chapterStars(), skyModel(6, 5, 9), []int{1, 4}}
}

func sameModel(a, b api.SkyModel) bool {
	return slices.Equal(a.Terms, b.Terms) && a.Den == b.Den
}

func fitError(t *testing.T, x observed) api.Errno {
	t.Helper()
	m, e := point.Fit(x.l)
	none(t, e, m.Terms == nil && m.Den == 0)
	return e
}

func checkFitError(_ *testing.T, x observed) api.Errno {
	return point.CheckFit(x.l, x.m)
}

// starsError is the error of all functions of stars.
func starsError(t *testing.T, x observed) api.Errno {
	t.Helper()
	terms, e := point.CheckStars(x.l)
	none(t, e, terms == 0)
	return agree(t, e, fitError(t, x), checkFitError(t, x))
}

func predictedError(t *testing.T, x observed) api.Errno {
	t.Helper()
	r, e := point.Predicted(x.m, x.shapes)
	none(t, e, r == api.Range{})
	return e
}

// modelError is the error of all functions of models.
func modelError(t *testing.T, x observed) api.Errno {
	t.Helper()
	return agree(t, point.CheckModel(x.m), checkFitError(t, x), predictedError(t, x))
}

// starsFaults are the faults of three stars.
func starsFaults() []fault[observed] {
	faults := []fault[observed]{
		{func(x *observed) { x.l = nil }, api.ErrShape},
		{func(x *observed) { x.l = make([]api.SkyStar, 21) }, api.ErrLarge},
		{func(x *observed) { x.l = slices.Repeat([]api.SkyStar{star(1001, 101)}, 21) }, api.ErrLarge},
		{func(x *observed) { x.l = slices.Repeat(chapterStars(), 7) }, api.ErrLarge},
	}
	for _, shapes := range [][]int{nil, {}, make([]int, 4), {101, 0, 0, 0}} { // those of the first one, or of all
		faults = append(faults,
			fault[observed]{func(x *observed) { x.l[0].Shapes = shapes }, api.ErrShape},
			fault[observed]{func(x *observed) { x.l[0].Shapes, x.l[1].Shapes, x.l[2].Shapes = shapes, shapes, shapes }, api.ErrShape},
		)
	}
	for i := range 3 {
		if i > 0 {
			for _, shapes := range [][]int{nil, {1}, {101}, {1, 1, 1}, {1, 1, 1, 1}} {
				faults = append(faults, fault[observed]{func(x *observed) { x.l[i].Shapes = shapes }, api.ErrShape})
			}
		}
		for j := range 2 {
			field := func(x *observed) *int {
				for len(x.l[i].Shapes) <= j { // another fault has left too few
					x.l[i].Shapes = append(slices.Clone(x.l[i].Shapes), 0)
				}
				return &x.l[i].Shapes[j]
			}
			faults = append(faults, numberFaults(field, -100, 100, api.ErrRange)...)
		}
		faults = append(faults, numberFaults(func(x *observed) *int { return &x.l[i].Error }, -1000, 1000, api.ErrRange)...)
	}
	return faults
}

func TestP9_2StarFaults(t *testing.T) {
	for i, f := range starsFaults() {
		x := validObserved()
		f.spoil(&x)
		if e := starsError(t, x); e != f.want {
			t.Error(i, e, f.want, x)
		}
	}
	var numbers []fault[observed] // those that do not change how many shapes there are
	for i := range 3 {
		for j := range 2 {
			numbers = append(numbers, numberFaults(func(x *observed) *int { return &x.l[i].Shapes[j] }, -100, 100, api.ErrRange)...)
		}
		numbers = append(numbers, numberFaults(func(x *observed) *int { return &x.l[i].Error }, -1000, 1000, api.ErrRange)...)
	}
	checkFaults(t, validObserved, starsError, append(starsFaults()[:4], numbers...))
}

// TestP9_2StarByStar checks that a star's errors are told before those of the next one, and its shape before its range.
func TestP9_2StarByStar(t *testing.T) {
	for _, x := range []struct {
		l    []api.SkyStar
		want api.Errno
	}{
		{[]api.SkyStar{star(0, 101), star(0, 1, 1)}, api.ErrRange},
		{[]api.SkyStar{star(1001, 1), star(0, 1, 1)}, api.ErrRange},
		{[]api.SkyStar{star(0, 1), star(1001, 1, 101)}, api.ErrShape},
		{[]api.SkyStar{star(0, 1), star(0), star(0, 101)}, api.ErrShape},
		{[]api.SkyStar{star(0, 1), star(0, 101), star(0)}, api.ErrRange},
		{[]api.SkyStar{star(1001)}, api.ErrShape},
		{[]api.SkyStar{star(1001, 101, 0, 0, 0)}, api.ErrShape},
		{[]api.SkyStar{star(1001, 1), star(0)}, api.ErrRange},
		{[]api.SkyStar{star(0, 1, 2, 3), star(0, 1, 2)}, api.ErrShape},
	} {
		if e := starsError(t, observed{x.l, skyModel(1, 0), nil}); e != x.want {
			t.Error(x, e)
		}
	}
}

func TestP9_2CheckStars(t *testing.T) {
	for terms := 1; terms <= 3; terms++ {
		for _, size := range []int{-100, 0, 100} {
			for _, e := range []int{-1000, 0, 1000} {
				for _, stars := range []int{1, 2, 19, 20} {
					l := slices.Repeat([]api.SkyStar{star(e, slices.Repeat([]int{size}, terms)...)}, stars)
					if n, e := point.CheckStars(l); n != terms || e != api.OK {
						t.Error(l, n, e)
					}
				}
			}
		}
	}
}

func TestP9_2FitNone(t *testing.T) {
	for _, l := range [][]api.SkyStar{
		{star(1, 0)}, {star(0, 0)}, {star(1, 0), star(2, 0)},
		{star(1, 1, 0)}, {star(1, 3, 4)}, {star(1, 3, 4), star(2, 3, 4)}, {star(1, 3, 4), star(2, -6, -8), star(5, 0, 0)}, {star(1, 0, 4), star(2, 0, 5)}, {star(1, 4, 0), star(2, 5, 0)},
		{star(1, 1, 2, 3), star(4, 5, 6, 7)}, {star(1, 1, 2, 3), star(4, 5, 7, 12), star(9, 0, 1, 1)}, {star(1, 1, 0, 1), star(2, 1, 0, 2), star(3, 1, 0, 3)}, {star(1, 0, 1, 1), star(2, 0, 1, 2), star(3, 0, 1, 3)},
		{star(1, 1, 1, 0), star(2, 1, 2, 0), star(3, 1, 3, 0)}, {star(1, 2, 5, 4), star(2, 3, 1, 6), star(3, 1, 0, 2), star(9, 7, 7, 14)}, {star(1, 1, 1, 2), star(2, 1, 2, 3), star(3, 1, 3, 4), star(4, 1, 4, 5)},
	} {
		m, e := point.Fit(l)
		if m.Terms != nil || m.Den != 0 || e != api.ErrZero {
			t.Error(l, m, e)
		}
	}
}

// alone are stars of the first one of three terms, pairs ones of the two others.
func alone(shapes, errors []int) []api.SkyStar {
	var l []api.SkyStar
	for i, shape := range shapes {
		l = append(l, star(errors[i], shape, 0, 0))
	}
	return l
}

func pairs(a, b []int) []api.SkyStar {
	var l []api.SkyStar
	for i, shape := range a {
		l = append(l, star(min(i, 1), 0, shape, b[i]))
	}
	return l
}

// TestP9_2FitLimits checks models whose greatest number is just 10^12, or just more. The determinants of the pairs are
// 5^12 and 99990001, and 10^12 is 2^12 * 5^12, 10^12 + 1 is 10001 * 99990001.
func TestP9_2FitLimits(t *testing.T) {
	const most = 1000000000000
	fives := pairs([]int{88, -84, 71}, []int{-97, -60, -4})
	prime := pairs([]int{99, -8, -24}, []int{-64, -45, -72})
	den, e := point.Fit(append(alone([]int{63, 11, 2, 1, 1}, []int{1, 0, 0, 0, 0}), fives...))
	if len(den.Terms) != 3 || den.Den != most || den.Terms[0] != 63*244140625 || e != api.OK {
		t.Error(den, e)
	}
	for _, sign := range []int{-1, 1} {
		m, e := point.Fit(append(alone([]int{10, 1}, []int{sign * 400, sign * 96}), fives...))
		if len(m.Terms) != 3 || m.Den != 101*244140625 || m.Terms[0] != sign*most || e != api.OK {
			t.Error(m, e)
		}
		if e := fitError(t, observed{l: append(alone([]int{10, 1}, []int{sign * 1000, sign}), prime...)}); e != api.ErrLarge {
			t.Error(sign, e)
		}
	}
	if e := fitError(t, observed{l: append(alone([]int{100, 1}, []int{0, 1}), prime...)}); e != api.ErrLarge {
		t.Error(e)
	}
}

func TestP9_2Fit(t *testing.T) {
	full := slices.Repeat([]api.SkyStar{star(1000, 100)}, 20)
	for _, x := range []struct {
		l    []api.SkyStar
		want api.SkyModel
	}{
		{chapterStars(), skyModel(6, 5, 9)},
		{[]api.SkyStar{star(1, 0, 1), star(2, 1, 1), star(4, 2, 1)}, skyModel(6, 9, 5)},
		{[]api.SkyStar{star(0, 1)}, skyModel(1, 0)},
		{[]api.SkyStar{star(0, 7, 0), star(0, 0, 7)}, skyModel(1, 0, 0)},
		{[]api.SkyStar{star(6, 4)}, skyModel(2, 3)},
		{[]api.SkyStar{star(6, -4)}, skyModel(2, -3)},
		{[]api.SkyStar{star(-6, 4)}, skyModel(2, -3)},
		{[]api.SkyStar{star(1, 1), star(2, 1), star(4, 1)}, skyModel(3, 7)},
		{[]api.SkyStar{star(5, 0), star(7, 1)}, skyModel(1, 7)},
		{full, skyModel(1, 10)},
		{[]api.SkyStar{star(1000, 1, 0, 0), star(-1000, 0, 1, 0), star(999, 0, 0, 1)}, skyModel(1, 1000, -1000, 999)},
		{[]api.SkyStar{star(1, 2, 0, 0), star(1, 0, 3, 0), star(1, 0, 0, 5)}, skyModel(30, 15, 10, 6)},
		{[]api.SkyStar{star(1, 0, 0, 5), star(1, 2, 0, 0), star(1, 0, 3, 0)}, skyModel(30, 15, 10, 6)},
		{[]api.SkyStar{star(6, 1, 1, 1), star(9, 1, 2, 3), star(10, 1, 4, 9)}, skyModel(2, 1, 16, -5)},
	} {
		if m, e := point.Fit(x.l); !sameModel(m, x.want) || e != api.OK {
			t.Error(x, m, e)
		}
		if e := point.CheckFit(x.l, x.want); e != api.OK {
			t.Error(x, e)
		}
	}
}

// rows is the equations of a best model: for each term the sums of its shape times the shapes, and times the errors.
func rows(l []api.SkyStar) [][]*big.Rat {
	terms := len(l[0].Shapes)
	var all [][]*big.Rat
	for i := range terms {
		row := make([]*big.Rat, terms+1)
		for j := range row {
			row[j] = new(big.Rat)
			for _, s := range l {
				row[j].Add(row[j], ratio(s.Shapes[i]*append(slices.Clone(s.Shapes), s.Error)[j], 1))
			}
		}
		all = append(all, row)
	}
	return all
}

// solution is the only best model by elimination, if there is only one. Its numbers may be too large.
func solution(l []api.SkyStar) (api.SkyModel, bool) {
	all := rows(l)
	for i := range all {
		from := slices.IndexFunc(all[i:], func(row []*big.Rat) bool { return row[i].Sign() != 0 })
		if from < 0 {
			return api.SkyModel{}, false
		}
		all[i], all[i+from] = all[i+from], all[i]
		by := new(big.Rat).Inv(all[i][i])
		for j := range all[i] {
			all[i][j] = new(big.Rat).Mul(all[i][j], by)
		}
		for k := range all {
			by := new(big.Rat).Set(all[k][i])
			for j := range all[k] {
				if k != i {
					all[k][j] = new(big.Rat).Sub(all[k][j], new(big.Rat).Mul(by, all[i][j]))
				}
			}
		}
	}
	den := big.NewInt(1)
	for _, row := range all {
		d := row[len(all)].Denom()
		den.Mul(den, new(big.Int).Quo(d, new(big.Int).GCD(nil, nil, d, den)))
	}
	m := api.SkyModel{Den: int(den.Int64())}
	for _, row := range all {
		m.Terms = append(m.Terms, int(new(big.Rat).Mul(row[len(all)], new(big.Rat).SetInt(den)).Num().Int64()))
	}
	return m, true
}

// isLarge tells whether a number of a model is greater than 10^12 in size.
func isLarge(m api.SkyModel) bool {
	return slices.ContainsFunc(append([]int{m.Den}, m.Terms...), func(n int) bool { return n < -1000000000000 || n > 1000000000000 })
}

func someStars(random *rand.Rand) []api.SkyStar {
	terms := 1 + random.IntN(3)
	most := []int{1, 3, 20, 100}[random.IntN(4)]
	mostError := []int{0, 3, 1000}[random.IntN(3)]
	var l []api.SkyStar
	for range 1 + random.IntN([]int{4, 20}[random.IntN(2)]) {
		s := star(random.IntN(2*mostError+1) - mostError)
		for range terms {
			s.Shapes = append(s.Shapes, random.IntN(2*most+1)-most)
		}
		l = append(l, s)
	}
	if random.IntN(6) == 0 { // the last term is a multiple of the first one
		by := random.IntN(5) - 2
		for _, s := range l {
			s.Shapes[terms-1] = max(-100, min(100, by*s.Shapes[0]))
		}
	}
	return l
}

func TestP9_2FitAgainstElimination(t *testing.T) {
	random := rand.New(rand.NewPCG(9, 2))
	counts := map[api.Errno]int{}
	for range 20000 {
		l := someStars(random)
		want, isOne := solution(l)
		m, e := point.Fit(l)
		counts[e]++
		switch {
		case !isOne:
			if m.Terms != nil || m.Den != 0 || e != api.ErrZero {
				t.Fatal(l, m, e)
			}
		case isLarge(want):
			if m.Terms != nil || m.Den != 0 || e != api.ErrLarge {
				t.Fatal(l, m, e, want)
			}
		case !sameModel(m, want) || e != api.OK || point.CheckModel(m) != api.OK || point.CheckFit(l, m) != api.OK:
			t.Fatal(l, m, e, want)
		}
	}
	if counts[api.OK] < 5000 || counts[api.ErrZero] < 1000 || counts[api.ErrLarge] < 300 {
		t.Error("too few of a kind", counts)
	}
}

// TestP9_2FitGreat fits stars with numbers that are as great as possible: no sum goes beyond its limits.
func TestP9_2FitGreat(t *testing.T) {
	random := rand.New(rand.NewPCG(2, 9))
	counts := map[api.Errno]int{}
	for range 3000 {
		var l []api.SkyStar
		for range 20 {
			sign := func() int { return 1 - 2*random.IntN(2) }
			l = append(l, star(1000*sign(), 100*sign(), 100*sign(), 100*sign()))
		}
		want, isOne := solution(l)
		m, e := point.Fit(l)
		counts[e]++
		switch {
		case !isOne:
			if e != api.ErrZero {
				t.Fatal(l, m, e)
			}
		case isLarge(want):
			if e != api.ErrLarge {
				t.Fatal(l, m, e)
			}
		case !sameModel(m, want) || e != api.OK:
			t.Fatal(l, m, e, want)
		}
	}
	if counts[api.OK] < 1000 {
		t.Error("too few", counts)
	}
}

// residual is that of a star.
func residual(s api.SkyStar, m api.SkyModel) *big.Rat {
	left := ratio(s.Error, 1)
	for i, n := range m.Terms {
		left.Sub(left, new(big.Rat).Mul(ratio(n, m.Den), ratio(s.Shapes[i], 1)))
	}
	return left
}

// isBest tells whether a model is a best one, by the definition.
func isBest(l []api.SkyStar, m api.SkyModel) bool {
	for i := range m.Terms {
		sum := new(big.Rat)
		for _, s := range l {
			sum.Add(sum, new(big.Rat).Mul(residual(s, m), ratio(s.Shapes[i], 1)))
		}
		if sum.Sign() != 0 {
			return false
		}
	}
	return true
}

// squares is the sum of the squares of the residuals.
func squares(l []api.SkyStar, m api.SkyModel) *big.Rat {
	sum := new(big.Rat)
	for _, s := range l {
		r := residual(s, m)
		sum.Add(sum, r.Mul(r, r))
	}
	return sum
}

// other is a model near another one, in lowest terms.
func other(random *rand.Rand, m api.SkyModel) api.SkyModel {
	by := 1 + random.IntN(3)
	n := skyModel(m.Den * by)
	for _, term := range m.Terms {
		n.Terms = append(n.Terms, term*by+random.IntN(3)-1)
	}
	d := big.NewInt(int64(n.Den))
	for _, term := range n.Terms {
		d.GCD(nil, nil, d, new(big.Int).Abs(big.NewInt(int64(term))))
	}
	n.Den /= int(d.Int64())
	for i := range n.Terms {
		n.Terms[i] /= int(d.Int64())
	}
	return n
}

func TestP9_9LeastSquares(t *testing.T) {
	random := rand.New(rand.NewPCG(9, 9))
	others := 0
	for range 5000 {
		l := someStars(random)
		m, e := point.Fit(l)
		if e != api.OK {
			continue
		}
		n := other(random, m)
		if isLarge(n) || sameModel(m, n) {
			continue
		}
		others++
		if !isBest(l, m) || isBest(l, n) || squares(l, n).Cmp(squares(l, m)) <= 0 {
			t.Fatal(l, m, n)
		}
		if e := point.CheckFit(l, n); e != api.ErrProof {
			t.Fatal(l, m, n, e)
		}
	}
	if others < 1500 {
		t.Error("too few", others)
	}
}

// TestP9_9Predicted fits stars whose errors a model predicts exactly.
func TestP9_9Predicted(t *testing.T) {
	random := rand.New(rand.NewPCG(99, 9))
	fits, fractions := 0, 0
	for range 10000 {
		l := someStars(random)
		den := 1 + random.IntN(6)
		m := skyModel(den)
		for range l[0].Shapes {
			m.Terms = append(m.Terms, random.IntN(41)-20)
		}
		if point.CheckModel(m) != api.OK {
			continue
		}
		for i := range l {
			l[i].Error = 0
			for j, term := range m.Terms {
				l[i].Shapes[j] %= 100 / den
				l[i].Error += l[i].Shapes[j] * term
				l[i].Shapes[j] *= den
			}
		}
		if _, isOne := solution(l); !isOne || slices.ContainsFunc(l, func(s api.SkyStar) bool { return s.Error < -1000 || s.Error > 1000 }) {
			continue
		}
		got, e := point.Fit(l)
		if !sameModel(got, m) || e != api.OK || point.CheckFit(l, m) != api.OK || squares(l, m).Sign() != 0 {
			t.Fatal(l, m, got, e)
		}
		if fits++; den > 1 {
			fractions++
		}
	}
	if fits < 2000 || fractions < 1000 {
		t.Error("too few of a kind", fits, fractions)
	}
}

// modelFaults are the faults of a model of two terms.
func modelFaults() []fault[observed] {
	var faults []fault[observed]
	for _, terms := range [][]int{nil, {}, make([]int, 4), {1, 2, 3, 4}, {math.MinInt, 0, 0, 0}} {
		faults = append(faults, fault[observed]{func(x *observed) { x.m.Terms = terms }, api.ErrShape})
	}
	faults = append(faults, numberFaults(func(x *observed) *int { return &x.m.Den }, 1, 1000000000000, api.ErrRange)...)
	for i := range 2 {
		faults = append(faults, numberFaults(func(x *observed) *int { return &x.m.Terms[i] }, -1000000000000, 1000000000000, api.ErrRange)...)
	}
	for _, m := range []api.SkyModel{
		skyModel(2, 0, 0), skyModel(12, 10, 18), skyModel(6, -3, 9), skyModel(4, 6, 0), skyModel(4, 0, 6), skyModel(1000000000000, 1000000000000, -1000000000000), skyModel(1000000000000, 0, 0), skyModel(15, 10, 5), skyModel(9, -6, -3),
	} {
		faults = append(faults, fault[observed]{func(x *observed) { x.m = skyModel(m.Den, m.Terms[0], m.Terms[1]) }, api.ErrForm})
	}
	return faults
}

func TestP9_2ModelFaults(t *testing.T) {
	checkFaults(t, validObserved, modelError, modelFaults())
	check := slices.Concat(starsFaults()[:4], modelFaults())
	for _, terms := range [][]int{{1}, {0}, {1, 2, 3}, {5, 9, 0}, {-1000000000000}} {
		x := validObserved()
		x.m = skyModel(1, terms...)
		if e := checkFitError(t, x); e != api.ErrShape {
			t.Error(x, e)
		}
		x.m.Den = 0
		if e := checkFitError(t, x); e != api.ErrRange {
			t.Error(x, e)
		}
		x.m = skyModel(2, append([]int{6, 8, 4}[:len(terms)-1], 2)...)
		if e := checkFitError(t, x); e != api.ErrForm {
			t.Error(x, e)
		}
	}
	for _, m := range []api.SkyModel{
		skyModel(6, 5, 8), skyModel(6, 4, 9), skyModel(5, 5, 9), skyModel(7, 5, 9), skyModel(6, 9, 5), skyModel(6, -5, -9), skyModel(6, 5, -9), skyModel(1, 0, 0), skyModel(1, 1, 1), skyModel(1000000000000, 833333333333, 1500000000000/3), skyModel(1, 1000000000000, -1000000000000),
	} {
		check = append(check, fault[observed]{func(x *observed) { x.m = skyModel(m.Den, m.Terms[0], m.Terms[1]) }, api.ErrProof})
	}
	checkFaults(t, validObserved, checkFitError, check)
	predicted := modelFaults()
	for _, shapes := range [][]int{nil, {1}, {1, 4, 0}, {1001}, {1001, 0, 0}, make([]int, 3)} {
		predicted = append(predicted, fault[observed]{func(x *observed) { x.shapes = shapes }, api.ErrShape})
	}
	for i := range 2 {
		field := func(x *observed) *int {
			x.shapes = append(slices.Clone(x.shapes), 0, 0)[:2] // another fault has left too few or too many
			return &x.shapes[i]
		}
		predicted = append(predicted, numberFaults(field, -1000, 1000, api.ErrRange)...)
		checkLimits(t, validObserved, predictedError, field, -1000, 1000)
		checkLimits(t, validObserved, predictedError, func(x *observed) *int { return &x.m.Terms[i] }, -1000000000000, 1000000000000)
	}
	checkLimits(t, validObserved, predictedError, func(x *observed) *int { return &x.m.Den }, 1, 1000000000000)
	checkFaults(t, validObserved, predictedError, predicted)
}

func TestP9_2CheckModel(t *testing.T) {
	for _, m := range []api.SkyModel{
		skyModel(1, 0), skyModel(1, 0, 0, 0), skyModel(1000000000000, 1), skyModel(1, 1000000000000), skyModel(1, -1000000000000), skyModel(999999999999, 1000000000000, -1000000000000), skyModel(6, 2, 3), skyModel(6, 10, 15), skyModel(30, 6, 10, 15), skyModel(30, 0, 0, -7),
		skyModel(1, 6, 6, 6), skyModel(1, -8),
	} {
		if e := point.CheckModel(m); e != api.OK {
			t.Error(m, e)
		}
	}
	for _, m := range []api.SkyModel{skyModel(30, 6, 12, 18), skyModel(3, 0, 0, 6), skyModel(2, -4), skyModel(1000000000000, 5, -10, 15)} {
		if e := point.CheckModel(m); e != api.ErrForm {
			t.Error(m, e)
		}
	}
}

func TestP9_2CheckFit(t *testing.T) {
	for _, x := range []struct {
		l    []api.SkyStar
		m    api.SkyModel
		want api.Errno
	}{
		// a best model need not be the only one
		{[]api.SkyStar{star(7, 0)}, skyModel(1000000000000, 999999999999), api.OK},
		{[]api.SkyStar{star(7, 1, 1)}, skyModel(1, 3, 4), api.OK},
		{[]api.SkyStar{star(7, 1, 1)}, skyModel(1, 1000000000000, 7-1000000000000), api.OK},
		{[]api.SkyStar{star(7, 1, 1)}, skyModel(1, 3, 5), api.ErrProof},
		{[]api.SkyStar{star(7, 1, 2, 3), star(9, 1, 2, 3)}, skyModel(1, 1, 2, 1), api.OK},
		{[]api.SkyStar{star(7, 1, 2, 3), star(9, 1, 2, 3)}, skyModel(1, 1, 2, 2), api.ErrProof},
		// only some of the sums are 0
		{[]api.SkyStar{star(0, 1, 0), star(1, 0, 1)}, skyModel(1, 0, 1), api.OK},
		{[]api.SkyStar{star(0, 1, 0), star(1, 0, 1)}, skyModel(1, 0, 0), api.ErrProof},
		{[]api.SkyStar{star(1, 1, 0), star(0, 0, 1)}, skyModel(1, 0, 0), api.ErrProof},
		{[]api.SkyStar{star(1, 1, 0, 0), star(0, 0, 1, 0), star(0, 0, 0, 1)}, skyModel(1, 0, 0, 0), api.ErrProof},
		{[]api.SkyStar{star(0, 1, 0, 0), star(1, 0, 1, 0), star(0, 0, 0, 1)}, skyModel(1, 0, 0, 0), api.ErrProof},
		{[]api.SkyStar{star(0, 1, 0, 0), star(0, 0, 1, 0), star(1, 0, 0, 1)}, skyModel(1, 0, 0, 0), api.ErrProof},
		{[]api.SkyStar{star(0, 1)}, skyModel(1000000000000, 1), api.ErrProof},
		{[]api.SkyStar{star(0, 1)}, skyModel(1, 0), api.OK},
		{[]api.SkyStar{star(1, 1), star(-1, 1)}, skyModel(1, 0), api.OK},
	} {
		if e := point.CheckFit(x.l, x.m); e != x.want {
			t.Error(x, e)
		}
	}
}

// greatStars are twenty stars with numbers that are as great as possible, and a model of them. Those of two terms may be
// balanced: the prediction is 0 everywhere, and the errors cancel out.
func greatStars(random *rand.Rand, isBalanced bool) ([]api.SkyStar, api.SkyModel) {
	sign := func() int { return 1 - 2*random.IntN(2) }
	terms := 2
	if !isBalanced {
		terms = 1 + random.IntN(3)
	}
	m := skyModel(1000000000000 - random.IntN(2))
	for range terms {
		m.Terms = append(m.Terms, (1000000000000-random.IntN(2))*sign())
	}
	if isBalanced {
		m.Terms[1] = -m.Terms[0]
	}
	var l []api.SkyStar
	for range 10 {
		s := star(1000 * sign())
		shape := 100 * sign()
		for range terms {
			if !isBalanced && random.IntN(3) == 0 {
				shape = -shape
			}
			s.Shapes = append(s.Shapes, shape)
		}
		l = append(l, s, s)
		if isBalanced {
			l[len(l)-1].Error = -s.Error
		}
	}
	return l, m
}

// TestP9_2CheckFitGreat checks that no sum goes beyond its limits.
func TestP9_2CheckFitGreat(t *testing.T) {
	random := rand.New(rand.NewPCG(92, 9))
	counts := map[api.Errno]int{}
	for round := range 4000 {
		l, m := greatStars(random, round%2 == 0)
		want := point.CheckModel(m)
		if want == api.OK && !isBest(l, m) {
			want = api.ErrProof
		}
		e := point.CheckFit(l, m)
		if counts[e]++; e != want {
			t.Fatal(l, m, e, want)
		}
	}
	if counts[api.ErrProof] < 500 || counts[api.OK] < 500 {
		t.Error("too few of a kind", counts)
	}
}

// around is a number rounded down and up.
func around(x *big.Rat) api.Range {
	lo := new(big.Int).Div(x.Num(), x.Denom()) // rounded down, as the denominator is above 0
	hi := new(big.Int).Neg(new(big.Int).Div(new(big.Int).Neg(x.Num()), x.Denom()))
	return api.Range{Lo: int(lo.Int64()), Hi: int(hi.Int64())}
}

func TestP9_2Predicted(t *testing.T) {
	for _, x := range []struct {
		m      api.SkyModel
		shapes []int
		want   api.Range
	}{
		{skyModel(6, 5, 9), []int{1, 4}, api.Range{Lo: 6, Hi: 7}},
		{skyModel(6, 5, 9), []int{-1, -4}, api.Range{Lo: -7, Hi: -6}},
		{skyModel(6, 5, 9), []int{-1, -1}, api.Range{Lo: -3, Hi: -2}},
		{skyModel(6, 5, 9), []int{3, 1}, api.Range{Lo: 4, Hi: 4}},
		{skyModel(6, 5, 9), []int{-3, -1}, api.Range{Lo: -4, Hi: -4}},
		{skyModel(6, 5, 9), []int{0, 0}, api.Range{}},
		{skyModel(7, 1), []int{1}, api.Range{Hi: 1}},
		{skyModel(7, 1), []int{-1}, api.Range{Lo: -1}},
		{skyModel(1, 1000000000000, 1000000000000, 1000000000000), []int{1000, 1000, 1000}, api.Range{Lo: 3000000000000000, Hi: 3000000000000000}},
		{skyModel(1, 1000000000000, 1000000000000, -1000000000000), []int{-1000, -1000, 1000}, api.Range{Lo: -3000000000000000, Hi: -3000000000000000}},
		{skyModel(1000000000000, 1, 0, 0), []int{1, 0, 0}, api.Range{Hi: 1}},
	} {
		if r, e := point.Predicted(x.m, x.shapes); r != x.want || e != api.OK {
			t.Error(x, r, e)
		}
	}
	random := rand.New(rand.NewPCG(29, 9))
	exact := 0
	for range 10000 {
		most := []int{3, 1000, 1000000000000}[random.IntN(3)]
		m := skyModel(1 + random.IntN(most))
		var shapes []int
		sum := new(big.Rat)
		for range 1 + random.IntN(3) {
			term, shape := random.IntN(2*most+1)-most, random.IntN(2001)-1000
			m.Terms, shapes = append(m.Terms, term), append(shapes, shape)
			sum.Add(sum, new(big.Rat).Mul(ratio(term, m.Den), ratio(shape, 1)))
		}
		if point.CheckModel(m) != api.OK {
			continue
		}
		r, e := point.Predicted(m, shapes)
		if r != around(sum) || e != api.OK {
			t.Fatal(m, shapes, r, e)
		}
		if r.Lo == r.Hi {
			exact++
		}
	}
	if exact < 300 {
		t.Error("too few", exact)
	}
}
