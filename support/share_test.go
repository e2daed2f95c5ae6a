package support_test

import (
	"math"
	"math/big"
	"math/rand/v2"
	"slices"
	"testing"

	"speculum/api"
	"speculum/support"
)

// share is the share of a thing, by the way up to the top, and whether all shares on this way are small.
func (o outline) share(thing string) (*big.Rat, bool) {
	b, ok := o.bearers[thing]
	if !ok {
		return big.NewRat(1, 1), true
	}
	share, areSmall := o.share(b.of.Name)
	arm := b.of.ArmLeft
	if b.isLeft {
		arm = b.of.ArmRight
	}
	share.Mul(share, big.NewRat(int64(arm), int64(b.of.ArmLeft+b.of.ArmRight)))
	return share, areSmall && isSmall(share)
}

// sharesOf is the shares of the points, or ErrLarge.
func sharesOf(l []api.Rocker) ([]api.Frac, api.Errno) {
	var shares []api.Frac
	o := outlineOf(l)
	for _, p := range o.points {
		share, areSmall := o.share(p)
		if !areSmall {
			return nil, api.ErrLarge
		}
		shares = append(shares, frac(int(share.Num().Int64()), int(share.Denom().Int64())))
	}
	return shares, api.OK
}

// hidden is a tree in which the share of a rocker is not small, though that of each point is.
func hidden() []api.Rocker {
	return []api.Rocker{
		rocker("a", "b", "p", 9995, 1), // b has 1 / 9996
		rocker("b", "c", "q", 9998, 1), // c has 1 / 99950004
		rocker("c", "d", "r", 6, 5),    // d has 5 / 1099450044
		rocker("d", "s", "t", 2, 3),
	}
}

func hiddenShares() []api.Frac {
	return []api.Frac{frac(1, 366483348), frac(1, 549725022), frac(1, 183241674), frac(4999, 49975002), frac(9995, 9996)}
}

// checkArms checks that a tree gets arms, one pair after the other, for loads.
func checkArms(t *testing.T, l []api.Rocker, loads []int, arms ...int) {
	t.Helper()
	got, e := support.ArmsFor(l, loads)
	want := slices.Clone(l)
	for i := range want {
		want[i].ArmLeft, want[i].ArmRight = arms[2*i], arms[2*i+1]
	}
	if !slices.Equal(got, want) || e != api.OK {
		t.Error(loads, got, want, e)
	}
}

func TestP7_2Examples(t *testing.T) {
	l := chapterTree()
	shares, e := support.Shares(l)
	if !slices.Equal(shares, chapterShares()) || agree(t, e, support.CheckShares(l, shares)) != api.OK {
		t.Error(shares, e)
	}
	checkArms(t, l, []int{1, 1, 1, 1}, 1, 1, 1, 1, 1, 1)
	checkArms(t, l, []int{1, 2, 3, 3}, 2, 1, 2, 1, 1, 1)
	checkArms(t, l, []int{4, 4, 1, 3}, 1, 2, 1, 1, 3, 1)
	checkArms(t, l, []int{1000000, 1000000, 1000000, 1000000}, 1, 1, 1, 1, 1, 1)
}

// shareFaults are the faults of shares.
func shareFaults() []fault[mount] {
	var faults []fault[mount]
	for _, spoil := range []func(x *mount){
		func(x *mount) { x.shares = nil },
		func(x *mount) { x.shares = x.shares[:len(x.l)] },
		func(x *mount) { x.shares = append(x.shares[:len(x.l)+1], frac(0, 1)) },
		func(x *mount) { x.shares = append(x.shares[:len(x.l)+1], frac(0, 0)) },
		func(x *mount) { x.shares = make([]api.Frac, 100) },
	} {
		faults = append(faults, fault[mount]{spoil, api.ErrShape})
	}
	for i := range 4 {
		for _, f := range []api.Frac{{}, frac(1, 0), frac(2, 8), frac(-1, -3), frac(1, -3), frac(math.MinInt, 2), frac(2000000000, 1000000002)} {
			faults = append(faults, fault[mount]{func(x *mount) { x.shares[i] = f }, api.ErrForm})
		}
		for _, f := range []api.Frac{frac(1, 1000000001), frac(1000000001, 1), frac(-1000000001, 2), frac(1, math.MaxInt), frac(math.MinInt, 1)} {
			faults = append(faults, fault[mount]{func(x *mount) { x.shares[i] = f }, api.ErrRange})
		}
	}
	return faults
}

// proofFaults are the faults of shares that are valid, but not those of the points.
func proofFaults() []fault[mount] {
	var faults []fault[mount]
	for i := range 4 {
		for _, f := range []api.Frac{frac(0, 1), frac(1, 1), frac(-1, 3), frac(1000000000, 1), frac(1, 1000000000)} {
			faults = append(faults, fault[mount]{func(x *mount) { x.shares[i] = f }, api.ErrProof})
		}
	}
	return faults
}

// deepMount is a mount that is deep enough for shares that are not small.
func deepMount() mount {
	x := mount{l: hidden(), t: [][]int{{3, 0, -6, 1, 2}}, weight: 10}
	for i := range x.l {
		x.l[i].ArmLeft, x.l[i].ArmRight = 1, 1
	}
	x.shares, _ = sharesOf(x.l)
	return x
}

// tooDeep is the fault that the shares are not small.
func tooDeep() fault[mount] {
	return fault[mount]{func(x *mount) { x.l = hidden() }, api.ErrLarge}
}

func TestP7_2ShareFaults(t *testing.T) {
	checkFaults(t, validMount, proofError, slices.Concat(treeFaults(), shareFaults(), proofFaults()))
	checkFaults(t, deepMount, proofError, append(append(shareFaults(), tooDeep()), proofFaults()...))
	swapped := []api.Frac{frac(1, 3), frac(1, 3), frac(1, 4), frac(1, 12)}
	if e := support.CheckShares(chapterTree(), swapped); e != api.ErrProof {
		t.Error(e)
	}
}

func TestP7_2SharesOfAnySize(t *testing.T) {
	random := rand.New(rand.NewPCG(7, 3))
	counts := map[api.Errno]int{}
	for round := range 3000 {
		l := someTree(random, 1+round%40, []int{1, 3, 30, 10000}[random.IntN(4)])
		want, e := sharesOf(l)
		got, e2 := support.Shares(l)
		if !slices.Equal(got, want) || agree(t, e, e2) != e2 {
			t.Fatal(l, got, want, e, e2)
		}
		counts[e]++
		proof := want
		if e == api.ErrLarge {
			proof = slices.Repeat([]api.Frac{frac(1, 2)}, len(l)+1)
		}
		if e2 := support.CheckShares(l, proof); e2 != e {
			t.Fatal(l, e, e2)
		}
	}
	if counts[api.OK] < 500 || counts[api.ErrLarge] < 500 {
		t.Error("too few of a kind", counts)
	}
}

// TestP7_2SmallestShares checks shares beside the limit of small fractions: those of the last rocker's left and right
// arm, which has a millionth.
func TestP7_2SmallestShares(t *testing.T) {
	for arms, want := range map[[2]int]api.Errno{
		{999, 1}:   api.OK,       // 1 / 1000000000, 999 / 1000000000
		{1, 999}:   api.OK,       // 999 / 1000000000, 1 / 1000000000
		{9990, 10}: api.OK,       // the same as the first ones
		{1, 1000}:  api.ErrLarge, // 1 / 1001000, 1 / 1001000000
		{501, 500}: api.ErrLarge, // 1 / 2002000, 501 / 1001000000
		{500, 501}: api.ErrLarge, // 501 / 1001000000, 1 / 2002000
		{1000, 1}:  api.ErrLarge, // 1 / 1001000000, 1 / 1001000
		{9998, 2}:  api.ErrLarge, // 1 / 5000000000, 4999 / 5000000000
	} {
		l := chain(3, true)
		l[0].ArmLeft, l[1].ArmLeft = 999, 999
		l[2].ArmLeft, l[2].ArmRight = arms[0], arms[1]
		shares, e := support.Shares(l)
		if e != want || e == api.OK && (len(shares) != 4 || shares[0].Den != 1000000000 || shares[1].Den != 1000000000) {
			t.Error(arms, shares, e)
		}
	}
}

// TestP7_2HiddenShares checks that the share of a rocker may be too large where that of no point is.
func TestP7_2HiddenShares(t *testing.T) {
	l, o := hidden(), outlineOf(hidden())
	for i, p := range o.points {
		if share, _ := o.share(p); !isRat(hiddenShares()[i], share) {
			t.Error(p, share)
		}
	}
	if share, _ := o.share("d"); isSmall(share) {
		t.Error(share)
	}
	x := mount{l: l, shares: hiddenShares(), t: [][]int{{1, 2, 3, 4, 5}}, weight: 1}
	if e := agree(t, sharesError(t, x), proofError(t, x), bendingError(t, x)); e != api.ErrLarge {
		t.Error(e)
	}
}

func TestP7_2LoadFaults(t *testing.T) {
	faults := treeFaults()
	for _, spoil := range []func(x *mount){
		func(x *mount) { x.loads = nil },
		func(x *mount) { x.loads = x.loads[:3] },
		func(x *mount) { x.loads = append(x.loads[:4], 0) },
		func(x *mount) { x.loads = make([]int, 1000) },
	} {
		faults = append(faults, fault[mount]{spoil, api.ErrShape})
	}
	for i := range 4 {
		faults = append(faults, numberFaults(func(x *mount) *int { return &x.loads[i] }, 1, 1000000, api.ErrRange)...)
	}
	faults = append(faults,
		fault[mount]{func(x *mount) { x.loads[0], x.loads[1] = 10001, 1 }, api.ErrLarge},
		fault[mount]{func(x *mount) { x.loads[0], x.loads[1] = 1, 10001 }, api.ErrLarge},
		fault[mount]{func(x *mount) { x.loads[2], x.loads[3] = 1000000, 1 }, api.ErrLarge},
		fault[mount]{func(x *mount) { x.loads = []int{1000000, 1000000, 1, 1000} }, api.ErrLarge}, // at the top alone
	)
	checkFaults(t, validMount, loadsError, faults)
	pair := func() mount { return mount{l: []api.Rocker{rocker("a", "p", "q", 5, 5)}, loads: []int{1, 1}} }
	checkLimits(t, pair, loadsError, func(x *mount) *int { return &x.loads[0] }, 1, 10000)
	checkLimits(t, pair, loadsError, func(x *mount) *int { return &x.loads[1] }, 1, 10000)
	checkArms(t, pair().l, []int{1, 10000}, 10000, 1)
	checkArms(t, pair().l, []int{1000000, 100}, 1, 10000)
	checkArms(t, pair().l, []int{999900, 1000000}, 10000, 9999)
}

// someLoads are as many loads, most of which are few and therefore have common divisors.
func someLoads(random *rand.Rand, n int) []int {
	most := []int{1, 2, 30, 1000000}[random.IntN(4)]
	var l []int
	for range n {
		l = append(l, 1+random.IntN(most))
	}
	return l
}

// sum is the sum of the loads of the points to which the way leads through a thing.
func (o outline) sum(thing string, loads []int) int {
	sum := 0
	for i, p := range o.points {
		if o.isBelow(p, thing) {
			sum += loads[i]
		}
	}
	return sum
}

func TestP7_2SomeLoads(t *testing.T) {
	random := rand.New(rand.NewPCG(7, 4))
	counts := map[api.Errno]int{}
	for round := range 600 {
		l := someTree(random, 1+round%20, 10000)
		loads := someLoads(random, len(l)+1)
		want, e, o := slices.Clone(l), api.OK, outlineOf(l)
		for i, r := range l {
			arms := big.NewRat(int64(o.sum(r.Right, loads)), int64(o.sum(r.Left, loads)))
			want[i].ArmLeft, want[i].ArmRight = int(arms.Num().Int64()), int(arms.Denom().Int64())
			if want[i].ArmLeft > 10000 || want[i].ArmRight > 10000 {
				e = api.ErrLarge
			}
		}
		got, e2 := support.ArmsFor(l, loads)
		if e == api.ErrLarge {
			want = nil
		}
		if !slices.Equal(got, want) || e != e2 {
			t.Fatal(l, loads, got, want, e, e2)
		}
		counts[e]++
	}
	if counts[api.OK] < 100 || counts[api.ErrLarge] < 100 {
		t.Error("too few of a kind", counts)
	}
}

// TestP7_10Shares checks that shares are above 0 and that those below a rocker add up to its own, which is 1 for the top.
func TestP7_10Shares(t *testing.T) {
	random := rand.New(rand.NewPCG(7, 10))
	good := 0
	for round := range 600 {
		l := someTree(random, 1+round%20, []int{1, 3, 10}[random.IntN(3)])
		shares, e := support.Shares(l)
		if e != api.OK {
			continue
		}
		good++
		o := outlineOf(l)
		for _, r := range l {
			sum := new(big.Rat)
			for i, p := range o.points {
				if shares[i].Num <= 0 {
					t.Fatal("lifted", l, p)
				}
				if o.isBelow(p, r.Name) {
					sum.Add(sum, rat(shares[i]))
				}
			}
			own, _ := o.share(r.Name)
			if sum.Cmp(own) != 0 || o.ways[r.Name] == "" && sum.Cmp(big.NewRat(1, 1)) != 0 {
				t.Fatal(l, r, sum, own)
			}
		}
	}
	if good < 200 {
		t.Error("too few", good)
	}
}

// TestP7_10ArmsFor checks that with the arms for loads the shares are the loads divided by their sum.
func TestP7_10ArmsFor(t *testing.T) {
	random := rand.New(rand.NewPCG(7, 11))
	good := 0
	for round := range 4000 {
		l := someTree(random, 1+round%40, 10000)
		loads := someLoads(random, len(l)+1)
		fitted, e := support.ArmsFor(l, loads)
		if e != api.OK {
			continue
		}
		good++
		shares, e := support.Shares(fitted)
		if agree(t, e, support.CheckShares(fitted, shares)) != api.OK || len(shares) != len(loads) {
			t.Fatal(l, loads, shares, e)
		}
		sum := 0
		for _, n := range loads {
			sum += n
		}
		for i, n := range loads {
			if !isRat(shares[i], big.NewRat(int64(n), int64(sum))) {
				t.Fatal(l, loads, shares)
			}
		}
		if turned, e := support.Unbalanced(fitted, loads); e != api.OK || len(turned) > 0 {
			t.Fatal(l, loads, turned, e)
		}
	}
	if good < 1000 {
		t.Error("too few", good)
	}
}

// TestP7_10Forces checks that forces in the proportion of the shares leave no rocker unbalanced.
func TestP7_10Forces(t *testing.T) {
	random := rand.New(rand.NewPCG(7, 12))
	good := 0
	for round := range 3000 {
		l := someTree(random, 1+round%12, 3)
		shares, e := support.Shares(l)
		whole := 1
		for _, f := range shares {
			whole = whole / int(new(big.Int).GCD(nil, nil, big.NewInt(int64(whole)), big.NewInt(int64(f.Den))).Int64()) * f.Den
			if whole > 1000000 {
				break
			}
		}
		if e != api.OK || whole > 1000000 {
			continue
		}
		good++
		var forces []int
		for _, f := range shares {
			forces = append(forces, whole/f.Den*f.Num)
		}
		if turned, e := support.Unbalanced(l, forces); e != api.OK || len(turned) > 0 {
			t.Fatal(l, forces, turned, e)
		}
		forces[random.IntN(len(forces))] ^= 1
		if turned, e := support.Unbalanced(l, forces); e != api.OK || len(turned) == 0 {
			t.Fatal(l, forces, turned, e)
		}
	}
	if good < 1000 {
		t.Error("too few", good)
	}
}
