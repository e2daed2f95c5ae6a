package support_test

import (
	"math/big"
	"math/rand/v2"
	"slices"
	"strconv"
	"strings"
	"testing"

	"speculum/api"
	"speculum/support"
)

// mount is the arguments of all functions of rockers and tables, of which valid ones are accepted.
type mount struct {
	l      []api.Rocker
	shares []api.Frac
	loads  []int
	at     [][2]int
	forces []int
	t      [][]int
	weight int
}

func frac(num, den int) api.Frac { return api.Frac{Num: num, Den: den} }

func span(lo, hi int) api.Range { return api.Range{Lo: lo, Hi: hi} }

func rat(f api.Frac) *big.Rat { return big.NewRat(int64(f.Num), int64(f.Den)) }

// isSmall tells whether r may be a fraction.
func isSmall(r *big.Rat) bool {
	limit := big.NewInt(1000000000)
	return r.Num().CmpAbs(limit) <= 0 && r.Denom().Cmp(limit) <= 0
}

// isRat tells whether a fraction is r.
func isRat(f api.Frac, r *big.Rat) bool {
	return isSmall(r) && f == frac(int(r.Num().Int64()), int(r.Denom().Int64()))
}

// around is r, rounded down and up.
func around(r *big.Rat) api.Range {
	lo, rest := new(big.Int).DivMod(r.Num(), r.Denom(), new(big.Int))
	hi := new(big.Int).Set(lo)
	if rest.Sign() > 0 {
		hi.Add(hi, big.NewInt(1))
	}
	return span(int(lo.Int64()), int(hi.Int64()))
}

func rocker(name, left, right string, armLeft, armRight int) api.Rocker {
	return api.Rocker{Name: name, Left: left, Right: right, ArmLeft: armLeft, ArmRight: armRight}
}

// chapterTree is the tree of the chapter's examples.
func chapterTree() []api.Rocker {
	return []api.Rocker{rocker("top", "a", "b", 1, 2), rocker("a", "p", "q", 1, 1), rocker("b", "r", "s", 3, 1)}
}

func chapterShares() []api.Frac {
	return []api.Frac{frac(1, 3), frac(1, 3), frac(1, 12), frac(1, 4)}
}

func validMount() mount {
	return mount{
		l:      chapterTree(),
		shares: chapterShares(),
		loads:  []int{1, 2, 3, 3},
		at:     [][2]int{{0, 0}, {2, 0}, {0, 8}, {4, 8}},
		forces: []int{4, 4, 2, 2},
		t:      [][]int{{3, 0, -6, 1}, {1, 2, 3, 4}},
		weight: 10,
	}
}

// treeError is the error of all functions of rockers, which is that of the tree if the other arguments are valid.
func treeError(t *testing.T, x mount) api.Errno {
	t.Helper()
	top, e := support.Top(x.l)
	none(t, e, top == "")
	points, e2 := support.Points(x.l)
	none(t, e2, points == nil)
	text, e3 := support.Print(x.l)
	none(t, e3, text == "")
	return agree(t, support.CheckTree(x.l), e, e2, e3, sharesError(t, x), proofError(t, x), loadsError(t, x), placesError(t, x), forcesError(t, x), bendingError(t, x))
}

func sharesError(t *testing.T, x mount) api.Errno {
	t.Helper()
	l, e := support.Shares(x.l)
	none(t, e, l == nil)
	return e
}

func proofError(t *testing.T, x mount) api.Errno {
	t.Helper()
	return support.CheckShares(x.l, x.shares)
}

func loadsError(t *testing.T, x mount) api.Errno {
	t.Helper()
	l, e := support.ArmsFor(x.l, x.loads)
	none(t, e, l == nil)
	return e
}

func placesError(t *testing.T, x mount) api.Errno {
	t.Helper()
	l, e := support.Pivots(x.l, x.at)
	none(t, e, l == nil)
	return e
}

func forcesError(t *testing.T, x mount) api.Errno {
	t.Helper()
	l, e := support.Unbalanced(x.l, x.forces)
	none(t, e, l == nil)
	return e
}

func bendingError(t *testing.T, x mount) api.Errno {
	t.Helper()
	l, e := support.Deflections(x.t, x.l, x.weight)
	none(t, e, l == nil)
	return e
}

// rockerFaults are the faults of the rocker i of three.
func rockerFaults(i int) []fault[mount] {
	l := nameFaults(func(x *mount) *string { return &x.l[i].Name }, "")
	for other := range i {
		l = append(l, fault[mount]{func(x *mount) { x.l[i].Name = x.l[other].Name }, api.ErrExists})
	}
	l = append(l, nameFaults(func(x *mount) *string { return &x.l[i].Left }, "")...)
	l = append(l, nameFaults(func(x *mount) *string { return &x.l[i].Right }, "")...)
	l = append(l, numberFaults(func(x *mount) *int { return &x.l[i].ArmLeft }, 1, 10000, api.ErrRange)...)
	return append(l, numberFaults(func(x *mount) *int { return &x.l[i].ArmRight }, 1, 10000, api.ErrRange)...)
}

// treeFaults are the faults of rockers.
func treeFaults() []fault[mount] {
	l := []fault[mount]{
		{func(x *mount) { x.l = nil }, api.ErrShape},
		{func(x *mount) { x.l = []api.Rocker{} }, api.ErrShape},
		{func(x *mount) { x.l = chain(41, true) }, api.ErrLarge},
		{func(x *mount) { x.l = make([]api.Rocker, 41) }, api.ErrLarge},
	}
	for i := range 3 {
		l = append(l, rockerFaults(i)...)
	}
	return append(l,
		fault[mount]{func(x *mount) { x.l[2].Left = "p" }, api.ErrClash},
		fault[mount]{func(x *mount) { x.l[2].Left = x.l[2].Right }, api.ErrClash},
		fault[mount]{func(x *mount) { x.l[2].Left = "a" }, api.ErrClash},
		fault[mount]{func(x *mount) { x.l[1].Right = "top" }, api.ErrCycle},
		fault[mount]{func(x *mount) { x.l = append(x.l[:3], rocker("c", "u", "c", 1, 1)) }, api.ErrCycle},
		fault[mount]{func(x *mount) { x.l = append(x.l[:3], rocker("d", "v", "w", 1, 1)) }, api.ErrOpen},
	)
}

// chain is as many rockers, each of which bears the next one, at its left or at its right arm, and a point.
func chain(n int, isLeft bool) []api.Rocker {
	var l []api.Rocker
	for i := range n {
		next := "r" + strconv.Itoa(i+1)
		if i == n-1 {
			next = "last"
		}
		r := rocker("r"+strconv.Itoa(i), next, "p"+strconv.Itoa(i), 1, 1)
		if !isLeft {
			r.Left, r.Right = r.Right, r.Left
		}
		l = append(l, r)
	}
	return l
}

// someTree is a tree of as many rockers, in any order, with arms up to most. Points are named in any order, too.
func someTree(random *rand.Rand, n, most int) []api.Rocker {
	names := random.Perm(2*n + 1)
	free := []int{0} // things that may still become rockers, by their numbers in names
	var l []api.Rocker
	name := func(i int) string { return "x" + strconv.Itoa(names[i]) }
	for i := range n {
		at := random.IntN(len(free))
		left, right := 2*i+1, 2*i+2
		l = append(l, rocker(name(free[at]), name(left), name(right), 1+random.IntN(most), 1+random.IntN(most)))
		free = append(slices.Delete(free, at, at+1), left, right)
	}
	random.Shuffle(n, func(i, j int) { l[i], l[j] = l[j], l[i] })
	return l
}

// bearer is the rocker that bears a thing.
type bearer struct {
	of     api.Rocker
	isLeft bool
}

// outline is a tree seen from below: who bears a thing, the ways from the top down to the things (l or r for each
// rocker), and the points in the order of their ways.
type outline struct {
	bearers map[string]bearer
	ways    map[string]string
	points  []string
}

func outlineOf(l []api.Rocker) outline {
	o := outline{bearers: map[string]bearer{}, ways: map[string]string{}}
	isRocker := map[string]bool{}
	for _, r := range l {
		isRocker[r.Name] = true
		o.bearers[r.Left], o.bearers[r.Right] = bearer{r, true}, bearer{r, false}
	}
	for _, r := range l {
		for _, thing := range []string{r.Name, r.Left, r.Right} {
			o.ways[thing] = o.way(thing)
		}
	}
	for thing := range o.ways {
		if !isRocker[thing] {
			o.points = append(o.points, thing)
		}
	}
	slices.SortFunc(o.points, func(a, b string) int { return strings.Compare(o.ways[a], o.ways[b]) })
	return o
}

func (o outline) way(thing string) string {
	way := ""
	for b, ok := o.bearers[thing]; ok; b, ok = o.bearers[thing] {
		side := "r"
		if b.isLeft {
			side = "l"
		}
		way, thing = side+way, b.of.Name
	}
	return way
}

// isBelow tells whether the way to a point leads through a thing.
func (o outline) isBelow(point, thing string) bool {
	return strings.HasPrefix(o.ways[point], o.ways[thing])
}

func TestP7_1Example(t *testing.T) {
	l := chapterTree()
	for _, order := range [][]int{{0, 1, 2}, {0, 2, 1}, {1, 0, 2}, {1, 2, 0}, {2, 0, 1}, {2, 1, 0}} {
		m := []api.Rocker{l[order[0]], l[order[1]], l[order[2]]}
		top, e := support.Top(m)
		points, e2 := support.Points(m)
		if top != "top" || !slices.Equal(points, []string{"p", "q", "r", "s"}) || agree(t, e, e2, support.CheckTree(m)) != api.OK {
			t.Error(order, top, points, e, e2)
		}
	}
}

func TestP7_1Faults(t *testing.T) {
	checkFaults(t, validMount, treeError, treeFaults())
}

func TestP7_1Limits(t *testing.T) {
	for i := range 3 {
		checkLimits(t, validMount, loadsError, func(x *mount) *int { return &x.l[i].ArmLeft }, 1, 10000)
		checkLimits(t, validMount, loadsError, func(x *mount) *int { return &x.l[i].ArmRight }, 1, 10000)
	}
	for i, first := range names {
		second, third := names[(i+1)%len(names)], names[(i+2)%len(names)]
		l := []api.Rocker{rocker(first, second, third, 1, 1)}
		top, e := support.Top(l)
		points, e2 := support.Points(l)
		if top != first || !slices.Equal(points, []string{second, third}) || agree(t, e, e2) != api.OK {
			t.Error(l, top, points, e, e2)
		}
	}
}

func TestP7_1Clashes(t *testing.T) {
	for _, l := range [][]api.Rocker{
		{rocker("a", "p", "p", 1, 1)},
		{rocker("a", "a", "a", 1, 1)},                              // and a circle
		{rocker("a", "b", "p", 1, 1), rocker("b", "p", "q", 1, 1)}, // a point
		{rocker("a", "b", "p", 1, 1), rocker("b", "q", "p", 1, 1)},
		{rocker("a", "p", "b", 1, 1), rocker("b", "q", "p", 1, 1)},
		{rocker("a", "p", "b", 1, 1), rocker("b", "p", "q", 1, 1)},
		{rocker("a", "b", "c", 1, 1), rocker("c", "b", "q", 1, 1), rocker("b", "r", "s", 1, 1)}, // a rocker
		{rocker("a", "c", "p", 1, 1), rocker("b", "c", "q", 1, 1), rocker("c", "r", "s", 1, 1)}, // and two tops
		{rocker("a", "b", "p", 1, 1), rocker("b", "b", "q", 1, 1)},                              // and a circle
		{rocker("a", "p", "q", 1, 1), rocker("b", "r", "s", 1, 1), rocker("c", "t", "r", 1, 1)},
	} {
		if e := support.CheckTree(l); e != api.ErrClash {
			t.Error(l, e)
		}
	}
}

func TestP7_1Circles(t *testing.T) {
	for _, l := range [][]api.Rocker{
		{rocker("a", "a", "p", 1, 1)},
		{rocker("a", "p", "a", 1, 1)},
		{rocker("a", "b", "p", 1, 1), rocker("b", "q", "a", 1, 1)},
		{rocker("a", "p", "b", 1, 1), rocker("b", "c", "q", 1, 1), rocker("c", "r", "a", 1, 1)},
		{rocker("a", "p", "q", 1, 1), rocker("b", "r", "b", 1, 1)}, // beside a tree
		{rocker("b", "r", "b", 1, 1), rocker("a", "p", "q", 1, 1)},
		{rocker("a", "p", "q", 1, 1), rocker("b", "r", "s", 1, 1), rocker("c", "d", "t", 1, 1), rocker("d", "u", "c", 1, 1)}, // beside two
		{rocker("a", "b", "c", 1, 1), rocker("b", "p", "q", 1, 1), rocker("c", "r", "a", 1, 1)},                              // behind a tree below it
	} {
		if e := support.CheckTree(l); e != api.ErrCycle {
			t.Error(l, e)
		}
	}
	for _, isLeft := range []bool{true, false} {
		round := chain(40, isLeft)
		if isLeft {
			round[39].Left = "r0"
		} else {
			round[39].Right = "r0"
		}
		if e := support.CheckTree(round); e != api.ErrCycle {
			t.Error(isLeft, e)
		}
	}
}

func TestP7_1Open(t *testing.T) {
	for _, l := range [][]api.Rocker{
		{rocker("a", "p", "q", 1, 1), rocker("b", "r", "s", 1, 1)},
		{rocker("a", "b", "q", 1, 1), rocker("b", "r", "s", 1, 1), rocker("c", "t", "u", 1, 1)},
		{rocker("c", "t", "u", 1, 1), rocker("a", "p", "b", 1, 1), rocker("b", "r", "s", 1, 1)},
		append(chain(39, true), rocker("c", "t", "u", 1, 1)),
	} {
		if e := support.CheckTree(l); e != api.ErrOpen {
			t.Error(l, e)
		}
	}
}

// TestP7_1Chains checks that there may be 40 rockers, whatever stands ahead of what.
func TestP7_1Chains(t *testing.T) {
	for _, isLeft := range []bool{true, false} {
		for _, isBackward := range []bool{true, false} {
			l, points := chain(40, isLeft), []string{"last"}
			for i := range 40 {
				point := []string{"p" + strconv.Itoa(39-i)}
				if isLeft {
					points = append(points, point...)
				} else {
					points = append(point, points...)
				}
			}
			if isBackward {
				slices.Reverse(l)
			}
			got, e := support.Points(l)
			top, e2 := support.Top(l)
			if !slices.Equal(got, points) || top != "r0" || agree(t, e, e2) != api.OK {
				t.Error(isLeft, isBackward, got, top, e, e2)
			}
		}
	}
}

func TestP7_1SomeTrees(t *testing.T) {
	random := rand.New(rand.NewPCG(7, 1))
	for round := range 2000 {
		l := someTree(random, 1+round%40, 10000)
		points, e := support.Points(l)
		top, e2 := support.Top(l)
		o := outlineOf(l)
		if !slices.Equal(points, o.points) || len(points) != len(l)+1 || top == "" || o.ways[top] != "" || agree(t, e, e2) != api.OK {
			t.Fatal(l, points, o.points, top, e, e2)
		}
	}
}

// errorOf is what CheckTree is to return for rockers that are valid one by one, by a table of who bears whom.
func errorOf(l []api.Rocker) api.Errno {
	times, bears := map[string]int{}, map[[2]string]bool{}
	for _, r := range l {
		for _, thing := range []string{r.Left, r.Right} {
			times[thing]++
			bears[[2]string{r.Name, thing}] = true
		}
	}
	for _, by := range l {
		for _, from := range l {
			for _, to := range l {
				if bears[[2]string{from.Name, by.Name}] && bears[[2]string{by.Name, to.Name}] {
					bears[[2]string{from.Name, to.Name}] = true
				}
			}
		}
	}
	tops, isRound := 0, false
	for _, r := range l {
		isRound = isRound || bears[[2]string{r.Name, r.Name}]
		if times[r.Name] == 0 {
			tops++
		}
	}
	for _, n := range times {
		if n > 1 {
			return api.ErrClash
		}
	}
	switch {
	case isRound:
		return api.ErrCycle
	case tops > 1:
		return api.ErrOpen
	}
	return api.OK
}

func TestP7_1AgainstTable(t *testing.T) {
	random := rand.New(rand.NewPCG(7, 2))
	counts := map[api.Errno]int{}
	for range 30000 {
		n := 1 + random.IntN(6)
		things := random.Perm(2*n + 2) // the first ones of which are rockers, most of them are borne once
		var l []api.Rocker
		for i := range n {
			l = append(l, rocker("x"+strconv.Itoa(i), "x"+strconv.Itoa(things[2*i]), "x"+strconv.Itoa(things[2*i+1]), 1, 1))
		}
		if random.IntN(3) == 0 {
			l[random.IntN(n)].Left = l[random.IntN(n)].Right
		}
		want := errorOf(l)
		if e := support.CheckTree(l); e != want {
			t.Fatal(l, e, want)
		}
		counts[want]++
	}
	for _, e := range []api.Errno{api.OK, api.ErrClash, api.ErrCycle, api.ErrOpen} {
		if counts[e] < 1000 {
			t.Error("too few of a kind", e, counts)
		}
	}
}
