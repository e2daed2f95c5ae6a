package blank_test

import (
	"math/rand/v2"
	"slices"
	"strconv"
	"strings"
	"testing"

	"speculum/api"
	"speculum/blank"
)

// store is a stock, its promises, one more, and what is wanted.
type store struct {
	batches  []api.GlassBatch
	promises []api.GlassPromise
	more     api.GlassPromise
	want     [2]int
}

func batch(name string, diameter, thick, count int) api.GlassBatch {
	return api.GlassBatch{Name: name, Diameter: diameter, Thick: thick, Count: count}
}

func promise(mirror, batch string) api.GlassPromise {
	return api.GlassPromise{Mirror: mirror, Batch: batch}
}

func smallStore() store {
	return store{
		batches:  []api.GlassBatch{batch("thick", 200, 40, 2), batch("thin", 200, 20, 2), batch("wide", 300, 30, 1), batch("none-left", 100, 10, 0)},
		promises: []api.GlassPromise{promise("m1", "thin"), promise("m2", "thick")},
		more:     promise("m3", "wide"),
		want:     [2]int{150, 15},
	}
}

// manyBatches are as many batches of three blanks, manyPromises promises of as many batches as they need.
func manyBatches(n int) []api.GlassBatch {
	var l []api.GlassBatch
	for i := range n {
		l = append(l, batch("b"+strconv.Itoa(i), 100, 10, 3))
	}
	return l
}

func manyPromises(n int) []api.GlassPromise {
	var l []api.GlassPromise
	for i := range n {
		l = append(l, promise("m"+strconv.Itoa(i), "thick"))
	}
	return l
}

func batchesError(t *testing.T, x store) api.Errno {
	t.Helper()
	return agree(t, blank.CheckBatches(x.batches), promisesError(t, x))
}

func promisesError(t *testing.T, x store) api.Errno {
	t.Helper()
	left, e1 := blank.LeftOf(x.batches, x.promises)
	first, e2 := blank.FirstBatch(x.batches, x.promises, x.want)
	none(t, e1, left == nil && first == "")
	return agree(t, blank.CheckPromises(x.batches, x.promises), e1, e2, moreError(t, x))
}

func moreError(t *testing.T, x store) api.Errno {
	t.Helper()
	l, e := blank.AddPromise(x.batches, x.promises, x.more)
	none(t, e, l == nil)
	if e == api.OK && !slices.Equal(l, append(slices.Clone(x.promises), x.more)) {
		t.Error("not one more behind them", x, l)
	}
	return e
}

func wantError(t *testing.T, x store) api.Errno {
	t.Helper()
	first, e := blank.FirstBatch(x.batches, x.promises, x.want)
	none(t, e, first == "")
	return e
}

func batchFaults(i int) []fault[store] {
	var l []fault[store]
	for _, name := range badNames {
		l = append(l, fault[store]{func(x *store) { x.batches[i].Name = name }, api.ErrName})
	}
	if i > 0 {
		l = append(l, fault[store]{func(x *store) { x.batches[i].Name = x.batches[0].Name }, api.ErrExists})
	}
	return slices.Concat(l,
		numberFaults(func(x *store) *int { return &x.batches[i].Diameter }, 1, 1000, api.ErrRange),
		numberFaults(func(x *store) *int { return &x.batches[i].Thick }, 1, 500, api.ErrRange),
		numberFaults(func(x *store) *int { return &x.batches[i].Count }, 0, 1000, api.ErrRange),
	)
}

func TestP3_3Batches(t *testing.T) {
	large := []fault[store]{{func(x *store) { x.batches = append(x.batches, manyBatches(37)...) }, api.ErrLarge}}
	checkFaults(t, smallStore, batchesError, slices.Concat(large, batchFaults(0), batchFaults(1)))
	if e := blank.CheckBatches(manyBatches(40)); e != api.OK {
		t.Error(e)
	}
	if e := blank.CheckBatches(manyBatches(41)); e != api.ErrLarge {
		t.Error(e)
	}
	if e := blank.CheckBatches(nil); e != api.OK {
		t.Error(e)
	}
	for _, name := range names {
		s := []api.GlassBatch{batch("y", 1, 1, 0), batch(name, 1000, 500, 1000)}
		if e := blank.CheckBatches(s); e != api.OK {
			t.Error(name, e)
		}
		if e := blank.CheckBatches(append(s, batch(name, 0, 0, -1))); e != api.ErrExists {
			t.Error(name, e)
		}
	}
}

// promiseFaults are the faults of a promise of smallStore.
func promiseFaults(of func(x *store) *api.GlassPromise) []fault[store] {
	var l []fault[store]
	for _, name := range badNames {
		l = append(l, fault[store]{func(x *store) { of(x).Mirror = name }, api.ErrName})
	}
	l = append(l, fault[store]{func(x *store) { of(x).Mirror = "m1" }, api.ErrExists})
	for _, name := range append(badNames, "none", "Thick", "m1") {
		l = append(l, fault[store]{func(x *store) { of(x).Batch = name }, api.ErrMissing})
	}
	return append(l, fault[store]{func(x *store) { of(x).Batch = "none-left" }, api.ErrStock})
}

func TestP3_3Promises(t *testing.T) {
	valid := func() store {
		x := smallStore()
		x.promises = append(x.promises, promise("x", "thick"), promise("y", "thin"))
		return x
	}
	checkFaults(t, valid, promisesError, slices.Concat(
		batchFaults(2),
		[]fault[store]{{func(x *store) { x.promises = append(x.promises, manyPromises(197)...) }, api.ErrLarge}},
		promiseFaults(func(x *store) *api.GlassPromise { return &x.promises[2] }),
		promiseFaults(func(x *store) *api.GlassPromise { return &x.promises[3] }),
	))
}

func TestP3_3StockIsTaken(t *testing.T) {
	for count, want := range []api.Errno{api.ErrStock, api.ErrStock, api.ErrStock, api.OK, api.OK} {
		s := []api.GlassBatch{batch("thick", 200, 40, count), batch("other", 200, 40, 9)}
		l := []api.GlassPromise{promise("a", "thick"), promise("b", "other"), promise("c", "thick"), promise("d", "thick")}
		if e := blank.CheckPromises(s, l); e != want {
			t.Error(count, e)
		}
	}
	if e := blank.CheckPromises(nil, nil); e != api.OK {
		t.Error(e)
	}
	if e := blank.CheckPromises(nil, []api.GlassPromise{promise("a", "thick")}); e != api.ErrMissing {
		t.Error(e)
	}
}

func TestP3_3AddPromise(t *testing.T) {
	checkFaults(t, smallStore, moreError, slices.Concat(
		batchFaults(1),
		[]fault[store]{{func(x *store) { x.promises[1].Batch = "none" }, api.ErrMissing}},
		promiseFaults(func(x *store) *api.GlassPromise { return &x.more }),
	))
	for name, want := range map[string]api.Errno{"a": api.OK, "m1": api.ErrExists, "m2": api.ErrExists, "M1": api.OK, "": api.ErrName} {
		x := smallStore()
		x.more.Mirror = name
		if e := moreError(t, x); e != want {
			t.Error(name, e)
		}
	}
	full := store{batches: []api.GlassBatch{batch("thick", 200, 40, 1000)}, promises: manyPromises(199), more: promise("x", "thick")}
	if e := moreError(t, full); e != api.OK {
		t.Error(e)
	}
	full.promises = manyPromises(200)
	if e := moreError(t, full); e != api.ErrLarge {
		t.Error(e)
	}
	full.more = promise("", "")
	if e := moreError(t, full); e != api.ErrLarge {
		t.Error(e)
	}
	// the error of the promises comes before that of one more
	full.promises[199].Mirror = "m7"
	if e := moreError(t, full); e != api.ErrExists {
		t.Error(e)
	}
}

func TestP3_3LeftOf(t *testing.T) {
	x := smallStore()
	x.batches[0].Count = 1
	if l, e := blank.LeftOf(x.batches, x.promises); !slices.Equal(l, []int{0, 1, 1, 0}) || e != api.OK {
		t.Error(l, e)
	}
	if l, e := blank.LeftOf(x.batches, nil); !slices.Equal(l, []int{1, 2, 1, 0}) || e != api.OK {
		t.Error(l, e)
	}
	if l, e := blank.LeftOf(nil, nil); len(l) != 0 || e != api.OK {
		t.Error(l, e)
	}
}

func TestP3_3FirstBatch(t *testing.T) {
	x := smallStore()
	x.batches[0].Count = 1
	for want, name := range map[[2]int]string{
		{150, 15}: "thin", {200, 20}: "thin", {200, 21}: "wide", {200, 25}: "wide", {201, 1}: "wide", {300, 30}: "wide", {1, 1}: "thin",
		{301, 1}: "", {1, 31}: "", {200, 40}: "", {1000, 500}: "",
	} {
		wantE := api.OK
		if name == "" {
			wantE = api.ErrNone
		}
		if b, e := blank.FirstBatch(x.batches, x.promises, want); b != name || e != wantE {
			t.Error(want, b, e)
		}
	}
	checkFaults(t, smallStore, wantError, slices.Concat(
		batchFaults(1),
		[]fault[store]{{func(x *store) { x.promises[1].Batch = "none" }, api.ErrMissing}},
		numberFaults(func(x *store) *int { return &x.want[0] }, 1, 1000, api.ErrRange),
		numberFaults(func(x *store) *int { return &x.want[1] }, 1, 500, api.ErrRange),
		[]fault[store]{{func(x *store) { x.want = [2]int{301, 1} }, api.ErrNone}},
	))
}

func TestP3_3FirstBatchOfAll(t *testing.T) {
	random := rand.New(rand.NewPCG(3, 3))
	found := 0
	for range 20000 {
		x := someStore(random)
		x.want = [2]int{1 + random.IntN(6), 1 + random.IntN(6)}
		left, _ := blank.LeftOf(x.batches, x.promises)
		best := -1
		for i, b := range x.batches {
			fits := left[i] > 0 && b.Diameter >= x.want[0] && b.Thick >= x.want[1]
			if fits && (best < 0 || b.Diameter*b.Diameter*b.Thick < x.batches[best].Diameter*x.batches[best].Diameter*x.batches[best].Thick) {
				best = i
			}
		}
		name, want := "", api.ErrNone
		if best >= 0 {
			name, want = x.batches[best].Name, api.OK
			found++
		}
		if b, e := blank.FirstBatch(x.batches, x.promises, x.want); b != name || e != want {
			t.Fatal(x, b, e, name, want)
		}
	}
	if found < 5000 || found > 19000 {
		t.Error("too few of a kind", found)
	}
}

// someStore is a stock with promises, of which many batches have nothing left.
func someStore(random *rand.Rand) store {
	var x store
	for i := range random.IntN(7) {
		x.batches = append(x.batches, batch("b"+strconv.Itoa(i), 1+random.IntN(6), 1+random.IntN(6), random.IntN(3)))
	}
	for i := range random.IntN(12) {
		p := promise("m"+strconv.Itoa(i), "b"+strconv.Itoa(random.IntN(7)))
		if l, e := blank.AddPromise(x.batches, x.promises, p); e == api.OK {
			x.promises = l
		}
	}
	return x
}

func TestP3_3Texts(t *testing.T) {
	for text, want := range map[string]api.GlassPromise{
		"m3 wide": promise("m3", "wide"), " ": {}, "a ": promise("a", ""), " b": promise("", "b"),
		"1\t2 \n": promise("1\t2", "\n"), "\xff \u00e4": promise("\xff", "\u00e4"),
		strings.Repeat("x", 70000) + " y": promise(strings.Repeat("x", 70000), "y"),
	} {
		if p, e := blank.ParsePromise(text); p != want || e != api.OK {
			t.Errorf("%.99q: %.99q, %d", text, p, e)
		}
		if s := blank.FormatPromise(want); s != text {
			t.Errorf("%.99q: %.99q", want, s)
		}
	}
	for _, text := range []string{"", "m3", "m3  wide", "m3 wide ", " m3 wide", "  ", "a b c", "a\tb", "a\nb", "a\u00a0b"} {
		if p, e := blank.ParsePromise(text); p != (api.GlassPromise{}) || e != api.ErrSyntax {
			t.Errorf("%q: %q, %d", text, p, e)
		}
	}
	if s := blank.FormatPromise(promise("a b", "")); s != "a b " {
		t.Error(s)
	}
}

func TestP3_9Stock(t *testing.T) {
	random := rand.New(rand.NewPCG(3, 9))
	counts := map[api.Errno]int{}
	for range 2000 {
		x := someStore(random)
		for range 30 {
			p := promise("m"+strconv.Itoa(random.IntN(20)), "b"+strconv.Itoa(random.IntN(8)))
			l, e := blank.AddPromise(x.batches, x.promises, p)
			counts[e]++
			if e == api.OK {
				x.promises = l
			}
		}
		served, taken := map[string]bool{}, map[string]int{}
		for _, p := range x.promises {
			if served[p.Mirror] {
				t.Fatal("two blanks of a mirror", x)
			}
			served[p.Mirror] = true
			taken[p.Batch]++
		}
		left, e := blank.LeftOf(x.batches, x.promises)
		if e != api.OK || len(left) != len(x.batches) {
			t.Fatal(x, left, e)
		}
		for i, b := range x.batches {
			if left[i] < 0 || left[i]+taken[b.Name] != b.Count {
				t.Fatal(x, left)
			}
		}
	}
	for _, e := range []api.Errno{api.OK, api.ErrExists, api.ErrMissing, api.ErrStock} {
		if counts[e] < 1000 {
			t.Error("too few of a kind", counts)
		}
	}
}
