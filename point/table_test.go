package point_test

import (
	"math/big"
	"math/rand/v2"
	"slices"
	"testing"

	"speculum/api"
	"speculum/point"
)

// looked is the arguments of TableAt, of which valid ones are accepted.
type looked struct {
	l  []api.SkyRow
	at int
}

// table is rows of places and values, one after the other.
func table(numbers ...int) []api.SkyRow {
	var l []api.SkyRow
	for i := 0; i < len(numbers); i += 2 {
		l = append(l, api.SkyRow{At: numbers[i], Value: numbers[i+1]})
	}
	return l
}

func validLooked() looked {
	return looked{table(0, 10, 100, 0, 200, -7), 30}
}

func tableAtError(t *testing.T, x looked) api.Errno {
	t.Helper()
	value, e := point.TableAt(x.l, x.at)
	none(t, e, value == 0)
	return e
}

// tableError is the error of all functions of tables.
func tableError(t *testing.T, x looked) api.Errno {
	t.Helper()
	return agree(t, point.CheckTable(x.l), tableAtError(t, x))
}

// tableFaults are the faults of a table of three rows.
func tableFaults[T any](field func(x *T) *[]api.SkyRow) []fault[T] {
	var faults []fault[T]
	for _, l := range [][]api.SkyRow{nil, {}, make([]api.SkyRow, 41), table(make([]int, 82)...), slices.Repeat(table(0, 1000001), 41)} {
		faults = append(faults, fault[T]{func(x *T) { *field(x) = l }, api.ErrShape})
	}
	for i := range 3 {
		faults = append(faults, numberFaults(func(x *T) *int { return &(*field(x))[i].At }, -1000000, 1000000, api.ErrRange)...)
		faults = append(faults, numberFaults(func(x *T) *int { return &(*field(x))[i].Value }, -1000000, 1000000, api.ErrRange)...)
		if i > 0 {
			faults = append(faults,
				fault[T]{func(x *T) { (*field(x))[i].At = max((*field(x))[i-1].At, -1000000) }, api.ErrOrder},
				fault[T]{func(x *T) { (*field(x))[i].At = -1000000 }, api.ErrOrder},
			)
		}
	}
	return faults
}

func TestP9_3Faults(t *testing.T) {
	faults := tableFaults(func(x *looked) *[]api.SkyRow { return &x.l })
	checkFaults(t, validLooked, tableError, faults)
	faults = append(faults, numberFaults(func(x *looked) *int { return &x.at }, -1000000, 1000000, api.ErrRange)...)
	checkFaults(t, validLooked, tableAtError, faults)
	checkLimits(t, validLooked, tableAtError, func(x *looked) *int { return &x.at }, -1000000, 1000000)
	for i := range 3 {
		checkLimits(t, validLooked, tableError, func(x *looked) *int { return &x.l[i].Value }, -1000000, 1000000)
	}
	checkLimits(t, validLooked, tableError, func(x *looked) *int { return &x.l[0].At }, -1000000, 99)
	checkLimits(t, validLooked, tableError, func(x *looked) *int { return &x.l[1].At }, 1, 199)
	checkLimits(t, validLooked, tableError, func(x *looked) *int { return &x.l[2].At }, 101, 1000000)
}

// TestP9_3RowByRow checks that a row's errors are told before those of the next one.
func TestP9_3RowByRow(t *testing.T) {
	for _, x := range []struct {
		l    []api.SkyRow
		want api.Errno
	}{
		{table(5, 0, 5, 0, 1000001, 0), api.ErrOrder},
		{table(5, 0, 6, 0, 1000001, 0, 6, 0), api.ErrRange},
		{table(5, 0, 4, 1000001), api.ErrRange},
		{table(5, 0, 6, 0, 5, 0), api.ErrOrder},
		{table(5, 0, 4, 0, 6, 0), api.ErrOrder},
		{table(1000001, 0, 1000002, 0), api.ErrRange},
		{table(-3, 0, -2, 0, -1, 0, 0, 0), api.OK},
		{table(-3, 0), api.OK},
	} {
		if e := tableError(t, looked{x.l, 0}); e != x.want {
			t.Error(x, e)
		}
	}
	var l []api.SkyRow
	for i := range 40 {
		l = append(l, api.SkyRow{At: i - 20, Value: i})
	}
	for i := range 40 {
		if e := tableError(t, looked{l[:i+1], 0}); e != api.OK {
			t.Error(i, e)
		}
	}
}

func TestP9_3TableAt(t *testing.T) {
	short, long := table(0, 10, 100, 0), table(-10, 7, -7, 8, 0, -9, 1, 5, 1000, 6)
	for _, x := range []struct {
		l        []api.SkyRow
		at, want int
	}{
		{short, 30, 7}, {short, 35, 6}, {short, -5, 10}, {short, 0, 10}, {short, 1, 9}, {short, 10, 9}, {short, 11, 8}, {short, 99, 0}, {short, 100, 0}, {short, 101, 0}, {short, 1000000, 0}, {short, -1000000, 10},
		{long, -11, 7}, {long, -10, 7}, {long, -9, 7}, {long, -8, 7}, {long, -7, 8}, {long, -6, 5}, {long, -1, -7}, {long, 0, -9}, {long, 1, 5}, {long, 2, 5}, {long, 999, 5}, {long, 1000, 6}, {long, 1001, 6},
		{table(5, 9), 4, 9}, {table(5, 9), 5, 9}, {table(5, 9), 6, 9},
		{table(-1000000, -1000000, 1000000, 1000000), 0, 0}, {table(-1000000, -1000000, 1000000, 1000000), 999999, 999999}, {table(-1000000, 1000000, 1000000, -1000000), -7, 7},
		{table(-1000000, -1000000, 1000000, 999999), 0, -1}, {table(-1000000, -999999, 1000000, 1000000), 0, 0}, {table(0, 0, 3, -1), 1, -1}, {table(0, 0, 3, -1), 2, -1}, {table(0, -1, 3, 0), 2, -1}, {table(0, 0, 3, 1), 2, 0},
	} {
		if value, e := point.TableAt(x.l, x.at); value != x.want || e != api.OK {
			t.Error(x, value, e)
		}
	}
}

// valueBy is the value of a table, by the line through the rows around a place.
func valueBy(l []api.SkyRow, at int) int {
	last := l[len(l)-1]
	if at >= last.At {
		return last.Value
	}
	for len(l) > 1 && at < l[len(l)-1].At {
		last, l = l[len(l)-1], l[:len(l)-1]
	}
	row := l[len(l)-1]
	if at <= row.At {
		return row.Value
	}
	way := new(big.Rat).Mul(ratio(last.Value-row.Value, last.At-row.At), ratio(at-row.At, 1))
	return around(way.Add(way, ratio(row.Value, 1))).Lo
}

// someTable is a right table whose places are so far apart.
func someTable(random *rand.Rand, rows, apart, most int) []api.SkyRow {
	var l []api.SkyRow
	at := -random.IntN(apart*rows + 1)
	for range rows {
		l = append(l, api.SkyRow{At: at, Value: random.IntN(2*most+1) - most})
		at += 1 + random.IntN(apart)
	}
	return l
}

func TestP9_3AgainstBig(t *testing.T) {
	random := rand.New(rand.NewPCG(9, 3))
	for range 3000 { // all places
		l := someTable(random, 1+random.IntN(5), 6, 9)
		for at := l[0].At - 3; at < 40; at++ {
			if value, e := point.TableAt(l, at); value != valueBy(l, at) || e != api.OK {
				t.Fatal(l, at, value, e)
			}
		}
	}
	for range 5000 { // great tables
		l := someTable(random, 1+random.IntN(40), 1+random.IntN(24000), 1000000)
		places := []int{random.IntN(2000001) - 1000000}
		for _, row := range l {
			places = append(places, row.At-1, row.At, row.At+1, row.At+random.IntN(20000))
		}
		for _, at := range places {
			if value, e := point.TableAt(l, at); value != valueBy(l, at) || e != api.OK {
				t.Fatal(l, at, value, e)
			}
		}
	}
}

func TestP9_10Between(t *testing.T) {
	random := rand.New(rand.NewPCG(9, 10))
	for range 5000 {
		l := someTable(random, 2+random.IntN(39), 1+random.IntN(24000), []int{3, 1000000}[random.IntN(2)])
		for i, b := range l[1:] {
			a := l[i]
			value, e := point.TableAt(l, a.At+random.IntN(b.At-a.At+1))
			if value < min(a.Value, b.Value) || value > max(a.Value, b.Value) || e != api.OK {
				t.Fatal(a, b, value, e)
			}
		}
	}
}
