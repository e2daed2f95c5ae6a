package shop_test

import (
	"math/big"
	"math/rand/v2"
	"strconv"
	"testing"

	"speculum/api"
	"speculum/shop"
)

// deliveredFacts is facts up to the delivery of a mirror.
func deliveredFacts(mirror string, due, cents, penalty, day int) []string {
	return []string{
		"order " + mirror + " ann " + strconv.Itoa(due) + " " + strconv.Itoa(cents) + " " + strconv.Itoa(penalty),
		"promise " + mirror + " c", "reading " + mirror + " 0 1 5 9", "sign " + mirror + " eve",
		"deliver " + mirror + " " + strconv.Itoa(day),
	}
}

func TestP10_3Payments(t *testing.T) {
	for _, c := range []struct{ due, cents, penalty, day, want int }{
		{30, 50000, 1000, 40, 40000},
		{30, 50000, 1000, 31, 49000},
		{30, 50000, 1000, 30, 50000},
		{30, 50000, 1000, 29, 50000}, // nothing is added for an early one
		{30, 50000, 1000, 0, 50000},
		{30, 50000, 1000, 79, 1000},
		{30, 50000, 1000, 80, 0},
		{30, 50000, 1000, 81, 0},
		{30, 50000, 0, 100000, 50000},
		{0, 0, 0, 0, 0},
		{0, 0, 1, 100000, 0},
		{0, 1000000000000, 1000000000000, 100000, 0},
		{0, 1000000000000, 10000000, 100000, 0},
		{0, 1000000000000, 9999999, 100000, 100000},
		{100000, 1000000000000, 1000000000000, 100000, 1000000000000},
		{99999, 1000000000000, 999999999999, 100000, 1},
	} {
		facts := deliveredFacts("m", c.due, c.cents, c.penalty, c.day)
		n, e := shop.Payment(fullShop(), facts, "m")
		earned, e2 := shop.Earned(fullShop(), facts)
		if n != c.want || earned != c.want || agree(t, e, e2) != api.OK {
			t.Error(c, n, earned, e)
		}
		n, e = shop.Payment(fullShop(), facts[:4], "m")
		earned, e2 = shop.Earned(fullShop(), facts[:4])
		if n != 0 || e != api.ErrEarly || earned != 0 || e2 != api.OK {
			t.Error(c, n, e, earned, e2)
		}
	}
}

func TestP10_3Earned(t *testing.T) {
	if n, e := shop.Earned(fullShop(), nil); n != 0 || e != api.OK {
		t.Error(n, e)
	}
	// all mirrors of a shop that has no room for more, at the highest price
	var facts []string
	for i := range 40 {
		facts = append(facts, deliveredFacts("m"+strconv.Itoa(i), 5, 1000000000000, 7, i)...)
	}
	want := 40*1000000000000 - 7*34*35/2
	if n, e := shop.Earned(fullShop(), facts); len(facts) != 200 || n != want || e != api.OK {
		t.Error(n, want, e)
	}
}

// TestP10_3AgainstReference holds payments against whole numbers of any size.
func TestP10_3AgainstReference(t *testing.T) {
	random := rand.New(rand.NewPCG(10, 3))
	late := 0
	for range 300 {
		var facts []string
		sum := new(big.Int)
		for i := range 1 + random.IntN(5) {
			due, day := random.IntN(100), random.IntN(130)
			cents, penalty := random.IntN(1000000000001), random.IntN(1+random.IntN(100000000000))
			facts = append(facts, deliveredFacts("m"+strconv.Itoa(i), due, cents, penalty, day)...)
			want := big.NewInt(int64(cents))
			if day > due {
				want.Sub(want, new(big.Int).Mul(big.NewInt(int64(day-due)), big.NewInt(int64(penalty))))
				late++
			}
			if want.Sign() < 0 {
				want.SetInt64(0)
			}
			if n, e := shop.Payment(fullShop(), facts, "m"+strconv.Itoa(i)); n != int(want.Int64()) || e != api.OK {
				t.Fatal(facts, n, e)
			}
			sum.Add(sum, want)
		}
		facts = append(facts, "order last ann 1 2 3")
		if n, e := shop.Earned(fullShop(), facts); n != int(sum.Int64()) || e != api.OK {
			t.Fatal(facts, n, e)
		}
	}
	if late < 50 {
		t.Error("too few", late)
	}
}
