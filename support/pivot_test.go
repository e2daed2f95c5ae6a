package support_test

import (
	"math/big"
	"math/rand/v2"
	"slices"
	"testing"

	"speculum/api"
	"speculum/support"
)

// placer computes places with fractions of any size, and notes which kinds of numbers on the way are not small.
type placer struct {
	o     outline
	l     []api.Rocker
	at    [][2]int
	large [3]bool // differences, products and sums
}

func (p *placer) note(kind int, r *big.Rat) *big.Rat {
	p.large[kind] = p.large[kind] || !isSmall(r)
	return r
}

// place is a coordinate of a thing.
func (p *placer) place(thing string, axis int) *big.Rat {
	i := slices.IndexFunc(p.l, func(r api.Rocker) bool { return r.Name == thing })
	if i < 0 {
		return big.NewRat(int64(p.at[slices.Index(p.o.points, thing)][axis]), 1)
	}
	r := p.l[i]
	left, right := p.place(r.Left, axis), p.place(r.Right, axis)
	apart := p.note(0, new(big.Rat).Sub(right, left))
	way := p.note(1, new(big.Rat).Mul(apart, big.NewRat(int64(r.ArmLeft), int64(r.ArmLeft+r.ArmRight))))
	return p.note(2, new(big.Rat).Add(left, way))
}

func TestP7_3Examples(t *testing.T) {
	l, e := support.Pivots(chapterTree(), validMount().at)
	if !slices.Equal(l, [][2]api.Frac{{frac(5, 3), frac(8, 3)}, {frac(1, 1), frac(0, 1)}, {frac(3, 1), frac(8, 1)}}) || e != api.OK {
		t.Error(l, e)
	}
	same, e := support.Pivots(chapterTree(), [][2]int{{7, -3}, {7, -3}, {7, -3}, {7, -3}})
	if !slices.Equal(same, [][2]api.Frac{{frac(7, 1), frac(-3, 1)}, {frac(7, 1), frac(-3, 1)}, {frac(7, 1), frac(-3, 1)}}) || e != api.OK {
		t.Error(same, e)
	}
	far, e := support.Pivots([]api.Rocker{rocker("a", "p", "q", 1, 3)}, [][2]int{{-1000000, 1000000}, {1000000, -1000000}})
	if !slices.Equal(far, [][2]api.Frac{{frac(-500000, 1), frac(500000, 1)}}) || e != api.OK {
		t.Error(far, e)
	}
}

func TestP7_3PlaceFaults(t *testing.T) {
	faults := treeFaults()
	for _, spoil := range []func(x *mount){
		func(x *mount) { x.at = nil },
		func(x *mount) { x.at = x.at[:3] },
		func(x *mount) { x.at = append(x.at[:4], [2]int{0, 1000001}) },
		func(x *mount) { x.at = make([][2]int, 1000) },
	} {
		faults = append(faults, fault[mount]{spoil, api.ErrShape})
	}
	for i := range 4 {
		for axis := range 2 {
			faults = append(faults, numberFaults(func(x *mount) *int { return &x.at[i][axis] }, -1000000, 1000000, api.ErrRange)...)
		}
	}
	for _, arms := range [][2]int{{9999, 10000}, {9998, 9999}} { // the pivots of a and b have great denominators, too
		faults = append(faults, fault[mount]{func(x *mount) {
			x.l[0].ArmLeft, x.l[0].ArmRight = arms[0], arms[1]
			x.l[1].ArmLeft, x.l[1].ArmRight = 9997, 9996
			x.l[2].ArmLeft, x.l[2].ArmRight = 9995, 9994
			x.at = [][2]int{{0, 0}, {1, 0}, {0, 0}, {1, 0}}
		}, api.ErrLarge})
	}
	checkFaults(t, validMount, placesError, faults)
	for i := range 4 {
		for axis := range 2 {
			checkLimits(t, validMount, placesError, func(x *mount) *int { return &x.at[i][axis] }, -1000000, 1000000)
		}
	}
}

// someMount is a tree with places of its points.
func someMount(random *rand.Rand, n int) ([]api.Rocker, [][2]int) {
	far := []int{1, 10, 1000000}[random.IntN(3)]
	l, at := someTree(random, n, []int{2, 9, 60, 10000}[random.IntN(4)]), make([][2]int, n+1)
	for i := range at {
		at[i] = [2]int{random.IntN(2*far+1) - far, random.IntN(2*far+1) - far}
	}
	return l, at
}

func TestP7_3SomePivots(t *testing.T) {
	random := rand.New(rand.NewPCG(7, 3))
	counts := map[[3]bool]int{}
	for round := range 20000 {
		l, at := someMount(random, 1+round%8)
		got, e := support.Pivots(l, at)
		p := &placer{o: outlineOf(l), l: l, at: at}
		var want [][2]*big.Rat
		for _, r := range l {
			want = append(want, [2]*big.Rat{p.place(r.Name, 0), p.place(r.Name, 1)})
		}
		counts[p.large]++
		if p.large != [3]bool{} {
			if e != api.ErrLarge || got != nil {
				t.Fatal(l, at, got, e)
			}
			continue
		}
		if e != api.OK || len(got) != len(want) {
			t.Fatal(l, at, got, e)
		}
		for i, w := range want {
			if !isRat(got[i][0], w[0]) || !isRat(got[i][1], w[1]) {
				t.Fatal(l, at, got, want)
			}
		}
	}
	if counts[[3]bool{}] < 3000 {
		t.Error("too few", counts)
	}
	for kind, least := range []int{1, 20, 20} {
		only := [3]bool{}
		only[kind] = true
		if counts[only] < least {
			t.Error("too few of a kind", kind, counts)
		}
	}
}

// TestP7_3LargeDifference checks a difference that is not small, though half of it is, and the pivot is 0.
func TestP7_3LargeDifference(t *testing.T) {
	l := []api.Rocker{rocker("top", "a", "b", 1, 1), rocker("a", "p", "q", 1, 1998), rocker("b", "r", "s", 1, 1998)}
	for axis := range 2 {
		at := make([][2]int, 4)
		at[0][axis], at[1][axis], at[2][axis], at[3][axis] = -500000, -499999, 500000, 499999
		if got, e := support.Pivots(l, at); e != api.ErrLarge || got != nil {
			t.Error(axis, got, e)
		}
		at[2][axis], at[3][axis] = 0, -1
		if got, e := support.Pivots(l, at); e != api.OK || got[0][axis] != frac(-250000, 1) || got[1][axis] != frac(-999499999, 1999) || got[2][axis] != frac(-1, 1999) {
			t.Error(axis, got, e)
		}
	}
}

// TestP7_3ManyRockers checks a chain of 40 rockers, each one behind what it bears or ahead of it.
func TestP7_3ManyRockers(t *testing.T) {
	for _, isLeft := range []bool{true, false} {
		for _, isBackward := range []bool{true, false} {
			l, at := chain(40, isLeft), slices.Repeat([][2]int{{5, -5}}, 41)
			if isBackward {
				slices.Reverse(l)
			}
			got, e := support.Pivots(l, at)
			if e != api.OK || !slices.Equal(got, slices.Repeat([][2]api.Frac{{frac(5, 1), frac(-5, 1)}}, 40)) {
				t.Error(isLeft, isBackward, got, e)
			}
			at[20] = [2]int{6, 4} // halves of halves
			if got, e := support.Pivots(l, at); e != api.OK || len(got) != 40 {
				t.Error(isLeft, isBackward, got, e)
			}
		}
	}
}

// TestP7_10Pivots checks that the pivot of the top is the sum of the places times the shares.
func TestP7_10Pivots(t *testing.T) {
	random := rand.New(rand.NewPCG(7, 13))
	good := 0
	for round := range 3000 {
		l, at := someMount(random, 1+round%12)
		pivots, e := support.Pivots(l, at)
		shares, e2 := support.Shares(l)
		if e != api.OK || e2 != api.OK {
			continue
		}
		good++
		top, _ := support.Top(l)
		i := slices.IndexFunc(l, func(r api.Rocker) bool { return r.Name == top })
		for axis := range 2 {
			sum := new(big.Rat)
			for point, f := range shares {
				sum.Add(sum, new(big.Rat).Mul(rat(f), big.NewRat(int64(at[point][axis]), 1)))
			}
			if !isRat(pivots[i][axis], sum) {
				t.Fatal(l, at, pivots, sum)
			}
		}
	}
	if good < 500 {
		t.Error("too few", good)
	}
}

func TestP7_3Unbalanced(t *testing.T) {
	l := chapterTree()
	for forces, want := range map[[4]int][]int{
		{4, 4, 1, 3}:                         {},
		{4, 4, 2, 2}:                         {2},
		{0, 0, 0, 0}:                         {},
		{1, 0, 0, 0}:                         {0, 1},
		{0, 0, 0, 1}:                         {0, 2},
		{1, 1, 1, 0}:                         {2},
		{1, 2, 3, 4}:                         {0, 1, 2},
		{250000, 250000, 62500, 187500}:      {},
		{1000000, 1000000, 250000, 750000}:   {},
		{1000000, 1000000, 1000000, 1000000}: {0, 2},
	} {
		if turned, e := support.Unbalanced(l, forces[:]); !slices.Equal(turned, want) || e != api.OK {
			t.Error(forces, turned, want, e)
		}
	}
}

func TestP7_3ForceFaults(t *testing.T) {
	faults := treeFaults()
	for _, spoil := range []func(x *mount){
		func(x *mount) { x.forces = nil },
		func(x *mount) { x.forces = x.forces[:3] },
		func(x *mount) { x.forces = append(x.forces[:4], -1) },
		func(x *mount) { x.forces = make([]int, 1000) },
	} {
		faults = append(faults, fault[mount]{spoil, api.ErrShape})
	}
	for i := range 4 {
		faults = append(faults, numberFaults(func(x *mount) *int { return &x.forces[i] }, 0, 1000000, api.ErrRange)...)
	}
	checkFaults(t, validMount, forcesError, faults)
	for i := range 4 {
		checkLimits(t, validMount, forcesError, func(x *mount) *int { return &x.forces[i] }, 0, 1000000)
	}
}

func TestP7_3SomeForces(t *testing.T) {
	random := rand.New(rand.NewPCG(7, 5))
	counts := map[bool]int{}
	for round := range 4000 {
		l := someTree(random, 1+round%40, []int{1, 2, 10000}[random.IntN(3)])
		var forces []int
		for range len(l) + 1 {
			forces = append(forces, random.IntN([]int{1, 2, 3, 1000001}[round%4]))
		}
		o := outlineOf(l)
		var want []int
		for i, r := range l {
			isTurned := r.ArmLeft*o.sum(r.Left, forces) != r.ArmRight*o.sum(r.Right, forces)
			if isTurned {
				want = append(want, i)
			}
			counts[isTurned]++
		}
		if turned, e := support.Unbalanced(l, forces); !slices.Equal(turned, want) || e != api.OK {
			t.Fatal(l, forces, turned, want, e)
		}
	}
	if counts[true] < 1000 || counts[false] < 1000 {
		t.Error("too few of a kind", counts)
	}
}
