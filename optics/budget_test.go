package optics_test

import (
	"math"
	"math/big"
	"math/rand/v2"
	"slices"
	"testing"

	"speculum/api"
	"speculum/optics"
)

// left is Total^2 less the squares.
func left(b api.Budget) *big.Int {
	n := product(b.Total, b.Total)
	for i, effect := range b.Effects {
		n.Sub(n, product(effect, effect, b.Amounts[i], b.Amounts[i]))
	}
	return n
}

func repeated(n, times int) []int {
	l := make([]int, times)
	for i := range l {
		l[i] = n
	}
	return l
}

func TestP2_7CheckBudget(t *testing.T) {
	for _, x := range []struct {
		b    api.Budget
		want int
		e    api.Errno
	}{
		{api.Budget{}, 0, api.OK},
		{api.Budget{Total: 100, Effects: []int{3, 4, 0}, Amounts: []int{23, 17, 10000}}, 615, api.OK},
		{api.Budget{Total: 5, Effects: []int{3, 2}, Amounts: []int{1, 2}}, 0, api.OK},
		{api.Budget{Total: 5, Effects: []int{3, 2}, Amounts: []int{2, 2}}, 0, api.ErrBreak},
		{api.Budget{Total: 100000000}, 10000000000000000, api.OK},
		{api.Budget{Total: 100000000, Effects: []int{10000}, Amounts: []int{10000}}, 0, api.OK},
		{api.Budget{Total: 100000000, Effects: repeated(10000, 30), Amounts: repeated(10000, 30)}, 0, api.ErrBreak},
		{api.Budget{Total: 100000000, Effects: repeated(10000, 30), Amounts: repeated(0, 30)}, 10000000000000000, api.OK},
		{api.Budget{Total: 100000001}, 0, api.ErrRange},
		{api.Budget{Total: -1, Effects: repeated(1, 31)}, 0, api.ErrRange},
		{api.Budget{Total: math.MinInt}, 0, api.ErrRange},
		{api.Budget{Total: 1, Effects: repeated(1, 31)}, 0, api.ErrLarge},
		{api.Budget{Total: 1, Effects: repeated(1, 30), Amounts: repeated(0, 31)}, 0, api.ErrShape},
		{api.Budget{Total: 1, Amounts: []int{1}}, 0, api.ErrShape},
		{api.Budget{Total: 1, Effects: []int{-1}}, 0, api.ErrShape},
		{api.Budget{Total: 1, Effects: []int{-1}, Amounts: []int{0}}, 0, api.ErrRange},
		{api.Budget{Total: 1, Effects: []int{10001}, Amounts: []int{0}}, 0, api.ErrRange},
		{api.Budget{Total: 1, Effects: []int{0}, Amounts: []int{-1}}, 0, api.ErrRange},
		{api.Budget{Total: 1, Effects: []int{0}, Amounts: []int{10001}}, 0, api.ErrRange},
		{api.Budget{Total: 1, Effects: []int{9, 1}, Amounts: []int{9, math.MinInt}}, 0, api.ErrRange},
		{api.Budget{Total: 1, Effects: []int{9, math.MaxInt}, Amounts: []int{9, 0}}, 0, api.ErrRange},
	} {
		if n, e := optics.CheckBudget(x.b); n != x.want || e != x.e {
			t.Error(x.b, n, e)
		}
	}
}

func TestP2_7CheckBudgetExactly(t *testing.T) {
	random := rand.New(rand.NewPCG(7, 2))
	counts := map[api.Errno]int{}
	for range 20000 {
		count := random.IntN(31)
		most := []int{3, 100, 10000}[random.IntN(3)]
		b := api.Budget{Total: random.IntN(5 * most * most), Effects: make([]int, count), Amounts: make([]int, count)}
		b.Total = min(b.Total, 100000000)
		for i := range count {
			b.Effects[i], b.Amounts[i] = random.IntN(most+1), random.IntN(most+1)
		}
		n, e := optics.CheckBudget(b)
		want, e2 := left(b), api.OK
		if want.Sign() < 0 {
			want, e2 = integer(0), api.ErrBreak
		}
		if integer(n).Cmp(want) != 0 || e != e2 {
			t.Fatal(b, n, e)
		}
		counts[e]++
	}
	if counts[api.OK] < 1000 || counts[api.ErrBreak] < 1000 {
		t.Error("too few of a kind", counts)
	}
}

func TestP2_7SplitBudget(t *testing.T) {
	effects := []int{3, 4, 0}
	if l, e := optics.SplitBudget(100, effects); !slices.Equal(l, []int{23, 17, 10000}) || e != api.OK {
		t.Error(l, e)
	}
	if !slices.Equal(effects, []int{3, 4, 0}) {
		t.Error("written into the argument", effects)
	}
	for _, x := range []struct {
		total   int
		effects []int
		want    []int
		e       api.Errno
	}{
		{0, []int{0, 1}, []int{10000, 0}, api.OK},
		{0, nil, nil, api.OK},
		{100, []int{0, 0}, []int{10000, 10000}, api.OK},
		{5, []int{5}, []int{1}, api.OK},
		{4, []int{5}, []int{0}, api.OK},
		{100000000, []int{1}, []int{10000}, api.OK},
		{100000000, []int{10000}, []int{10000}, api.OK},
		{99999999, []int{10000}, []int{9999}, api.OK},
		{100000000, repeated(10000, 30), repeated(1825, 30), api.OK},
		{-1, repeated(-1, 31), nil, api.ErrRange},
		{100000001, nil, nil, api.ErrRange},
		{math.MinInt, nil, nil, api.ErrRange},
		{5, repeated(-1, 31), nil, api.ErrLarge},
		{5, []int{1, -1}, nil, api.ErrRange},
		{5, []int{10001, 1}, nil, api.ErrRange},
		{5, []int{0, math.MinInt}, nil, api.ErrRange},
	} {
		if l, e := optics.SplitBudget(x.total, x.effects); !slices.Equal(l, x.want) || e != x.e {
			t.Error(x.total, x.effects, l, e)
		}
	}
}

func TestP2_12SplitsAreAcceptedAndGreatest(t *testing.T) {
	random := rand.New(rand.NewPCG(12, 7))
	for range 3000 {
		effects := make([]int, random.IntN(31))
		most := []int{1, 4, 200, 10000}[random.IntN(4)]
		shares := 0
		for i := range effects {
			effects[i] = random.IntN(most + 1)
			if effects[i] != 0 {
				shares++
			}
		}
		total := random.IntN([]int{10, 1000, 1000000, 100000001}[random.IntN(4)])
		amounts, e := optics.SplitBudget(total, effects)
		if e != api.OK || len(amounts) != len(effects) {
			t.Fatal(total, effects, amounts, e)
		}
		if _, e := optics.CheckBudget(api.Budget{Total: total, Effects: effects, Amounts: amounts}); e != api.OK {
			t.Fatal(total, effects, amounts, e)
		}
		for i, a := range amounts {
			fits := func(a int) bool { return product(shares, effects[i], effects[i], a, a).Cmp(product(total, total)) <= 0 }
			if a < 0 || a > 10000 || !fits(a) || a < 10000 && fits(a+1) {
				t.Fatal(total, effects, i, a)
			}
		}
	}
}
