package shop_test

import (
	"math"
	"math/rand/v2"
	"slices"
	"strconv"
	"testing"

	"speculum/api"
	"speculum/shop"
)

func job(name, machine, person string, minutes int, after ...string) api.Job {
	return api.Job{Name: name, Machine: machine, Person: person, Minutes: minutes, After: after}
}

// chapterJobs is the jobs of the chapter's example.
func chapterJobs() []api.Job {
	return []api.Job{job("a", "x", "p", 30), job("b", "y", "p", 20), job("c", "x", "q", 10, "b")}
}

// works is the arguments of all functions of jobs, of which valid ones are accepted.
type works struct {
	l      []api.Job
	starts []int
}

func validWorks() works {
	return works{append(chapterJobs(), job("d", "z", "r", 5, "c", "a", "b")), []int{0, 30, 50, 60}}
}

// jobsError is the error of CheckJobs, and of all functions of jobs if the starts are right.
func jobsError(t *testing.T, x works) (int, api.Errno) {
	t.Helper()
	n, e := shop.CheckJobs(x.l)
	if e == api.OK && n != 0 {
		t.Error("a number without an error", n)
	}
	starts, e2 := shop.Schedule(x.l)
	none(t, e2, starts == nil)
	least, e3 := shop.LeastEnd(x.l)
	none(t, e3, least == 0)
	agree(t, e, e2, e3)
	if end, e4 := shop.CheckSchedule(x.l, x.starts); e != api.OK && (end != 0 || e4 != e) {
		t.Error("another error by CheckSchedule", end, e4, e)
	}
	return n, e
}

func worksError(t *testing.T, x works) api.Errno {
	t.Helper()
	_, e := jobsError(t, x)
	if e == api.OK {
		_, e = shop.CheckSchedule(x.l, x.starts)
	}
	return e
}

// jobFaults are the faults of a job; others are names of other jobs that are ahead of it.
func jobFaults(i int, others ...string) []fault[works] {
	faults := nameFaults(func(x *works) *string { return &x.l[i].Name }, "")
	faults = append(faults, nameFaults(func(x *works) *string { return &x.l[i].Machine }, "")...)
	faults = append(faults, nameFaults(func(x *works) *string { return &x.l[i].Person }, "")...)
	for _, other := range others {
		faults = append(faults, fault[works]{func(x *works) { x.l[i].Name = other }, api.ErrExists})
	}
	faults = append(faults, numberFaults(func(x *works) *int { return &x.l[i].Minutes }, 1, 10000, api.ErrRange)...)
	faults = append(faults,
		fault[works]{func(x *works) { x.l[i].After = make([]string, 11) }, api.ErrLarge},
		fault[works]{func(x *works) { x.l[i].After = slices.Repeat([]string{"a"}, 11) }, api.ErrLarge},
		fault[works]{func(x *works) { x.l[i].After = slices.Repeat([]string{"e"}, 10) }, api.ErrMissing},
	)
	for _, name := range []string{"", "e", "A", "aa", "p", "x", x4(i), "d"} {
		faults = append(faults, fault[works]{func(x *works) { x.l[i].After = []string{name} }, api.ErrMissing})
	}
	for _, other := range others {
		faults = append(faults,
			fault[works]{func(x *works) { x.l[i].After = []string{other, "e", "e"} }, api.ErrMissing},
			fault[works]{func(x *works) { x.l[i].After = []string{other, other} }, api.ErrExists},
			fault[works]{func(x *works) { x.l[i].After = []string{other, other, "e"} }, api.ErrExists},
			fault[works]{func(x *works) { x.l[i].After = slices.Repeat([]string{other}, 10) }, api.ErrExists},
		)
	}
	return faults
}

// x4 is the name of one of the four jobs.
func x4(i int) string { return string("abcd"[i]) }

func worksFaults() []fault[works] {
	faults := []fault[works]{
		{func(x *works) { x.l = make([]api.Job, 61) }, api.ErrLarge},
		{func(x *works) { x.l = slices.Repeat([]api.Job{job("a", "x", "p", 1)}, 61) }, api.ErrLarge},
	}
	return slices.Concat(faults, jobFaults(0), jobFaults(1, "a"), jobFaults(2, "a", "b"), jobFaults(3, "c", "b", "a"))
}

func TestP10_6JobFaults(t *testing.T) {
	checkFaults(t, validWorks, worksError, worksFaults())
	for i := range 4 {
		for _, name := range names {
			x := validWorks()
			x.l[i].Machine, x.l[i].Person = name, name
			if _, e := jobsError(t, x); e != api.OK {
				t.Error(name, e)
			}
		}
		for _, minutes := range []int{1, 10000} {
			x := validWorks()
			x.l[i].Minutes = minutes
			if _, e := jobsError(t, x); e != api.OK {
				t.Error(minutes, e)
			}
		}
	}
}

// manyJobs is so many jobs of different machines and persons, none of which stands behind another one.
func manyJobs(count int) []api.Job {
	var l []api.Job
	for n := range count {
		l = append(l, job("j"+strconv.Itoa(n), "x"+strconv.Itoa(n), "p"+strconv.Itoa(n), 1+n))
	}
	return l
}

// TestP10_6Numbers checks which job is named.
func TestP10_6Numbers(t *testing.T) {
	for i := range 60 {
		for _, c := range []struct {
			spoil func(j *api.Job)
			want  api.Errno
		}{
			{func(j *api.Job) { j.Name = "" }, api.ErrName},
			{func(j *api.Job) { j.Person = "1" }, api.ErrName},
			{func(j *api.Job) { j.Minutes = 0 }, api.ErrRange},
			{func(j *api.Job) { j.After = make([]string, 11) }, api.ErrLarge},
			{func(j *api.Job) { j.After = []string{"j60"} }, api.ErrMissing},
			{func(j *api.Job) { j.After = []string{j.Name} }, api.ErrMissing},
		} {
			l := manyJobs(60)
			for n := i; n < 60; n += 7 {
				c.spoil(&l[n])
			}
			if n, e := jobsError(t, works{l: l}); n != i || e != c.want {
				t.Error(i, n, e, c.want)
			}
		}
		if i > 0 {
			l := manyJobs(60)
			l[i].Name = "j" + strconv.Itoa(i/2)
			if n, e := jobsError(t, works{l: l}); n != i || e != api.ErrExists {
				t.Error(i, n, e)
			}
			l = manyJobs(60)
			l[i-1].After = []string{"j" + strconv.Itoa(i)}
			if n, e := jobsError(t, works{l: l}); n != i-1 || e != api.ErrMissing {
				t.Error(i, n, e)
			}
		}
	}
	for _, l := range [][]api.Job{manyJobs(61), make([]api.Job, 61), manyJobs(100)} {
		if n, e := jobsError(t, works{l: l}); n != 0 || e != api.ErrLarge {
			t.Error(n, e)
		}
	}
	l := manyJobs(60)
	l[59].After = []string{"j9", "j8", "j7", "j6", "j5", "j4", "j3", "j2", "j1", "j0"}
	if _, e := jobsError(t, works{l: l}); e != api.OK {
		t.Error(e)
	}
}

func TestP10_6ChapterJobs(t *testing.T) {
	l := chapterJobs()
	starts, e := shop.Schedule(l)
	if !slices.Equal(starts, []int{0, 30, 50}) || e != api.OK {
		t.Error(starts, e)
	}
	if n, e := shop.LeastEnd(l); n != 50 || e != api.OK {
		t.Error(n, e)
	}
	if n, e := shop.CheckSchedule(l, starts); n != 60 || e != api.OK {
		t.Error(n, e)
	}
	if starts, e := shop.Schedule(nil); len(starts) != 0 || e != api.OK {
		t.Error(starts, e)
	}
	if n, e := shop.LeastEnd(nil); n != 0 || e != api.OK {
		t.Error(n, e)
	}
	if n, e := shop.CheckSchedule(nil, nil); n != 0 || e != api.OK {
		t.Error(n, e)
	}
	if n, e := shop.CheckSchedule(nil, []int{0}); n != 0 || e != api.ErrShape {
		t.Error(n, e)
	}
}

func TestP10_6Schedules(t *testing.T) {
	for _, c := range []struct {
		l    []api.Job
		want []int
	}{
		// a later job is given an earlier gap just if it fits
		{[]api.Job{job("a", "x", "p", 10), job("b", "y", "p", 20), job("c", "y", "q", 10), job("d", "y", "r", 1)}, []int{0, 10, 0, 30}},
		{[]api.Job{job("a", "x", "p", 10), job("b", "y", "p", 20), job("c", "y", "q", 11)}, []int{0, 10, 30}},
		{[]api.Job{job("a", "x", "p", 10), job("b", "y", "p", 20), job("c", "y", "q", 9), job("d", "y", "r", 1)}, []int{0, 10, 0, 9}},
		// one person at different machines, one machine with different persons
		{[]api.Job{job("a", "x", "p", 7), job("b", "y", "p", 7), job("c", "x", "q", 7)}, []int{0, 7, 7}},
		// names of machines and persons are apart
		{[]api.Job{job("a", "x", "y", 7), job("b", "y", "x", 7)}, []int{0, 0}},
		{[]api.Job{job("a", "x", "p", 7), job("b", "y", "q", 5, "a"), job("c", "y", "r", 7), job("d", "z", "s", 1, "a", "b", "c")}, []int{0, 7, 0, 12}},
		{[]api.Job{job("a", "x", "p", 7), job("b", "y", "q", 5, "a"), job("c", "y", "r", 8), job("d", "z", "s", 1, "a", "b", "c")}, []int{0, 7, 12, 20}},
		{[]api.Job{job("a", "x", "p", 10000), job("b", "x", "q", 10000), job("c", "y", "p", 10000, "a")}, []int{0, 10000, 10000}},
	} {
		if starts, e := shop.Schedule(c.l); !slices.Equal(starts, c.want) || e != api.OK {
			t.Error(c.l, starts, e)
		}
	}
	l := manyJobs(60)
	for i := range l {
		l[i].Machine, l[i].Minutes = "x", 10000
	}
	starts, e := shop.Schedule(l)
	if n, e2 := shop.CheckSchedule(l, starts); n != 600000 || agree(t, e, e2) != api.OK || starts[59] != 590000 {
		t.Error(starts, n, e)
	}
}

// scheduleFaults are the faults of starts of the four jobs, job by job.
func scheduleFaults() []fault[works] {
	faults := append(worksFaults(),
		fault[works]{func(x *works) { x.starts = nil }, api.ErrShape},
		fault[works]{func(x *works) { x.starts = x.starts[:3] }, api.ErrShape},
		fault[works]{func(x *works) { x.starts = make([]int, 5) }, api.ErrShape},
	)
	start := func(i int) func(x *works) *int { return func(x *works) *int { return &x.starts[i] } }
	at := func(i, minute int, want api.Errno) fault[works] {
		return fault[works]{func(x *works) { x.starts[i] = minute }, want}
	}
	faults = append(faults, numberFaults(start(0), 0, 10000000, api.ErrRange)...)
	faults = append(faults, numberFaults(start(1), 0, 10000000, api.ErrRange)...)
	faults = append(faults, at(1, 0, api.ErrBusy), at(1, 29, api.ErrBusy))
	faults = append(faults, numberFaults(start(2), 0, 10000000, api.ErrRange)...)
	faults = append(faults, at(2, 0, api.ErrEarly), at(2, 49, api.ErrEarly))
	faults = append(faults, numberFaults(start(3), 0, 10000000, api.ErrRange)...)
	return append(faults, at(3, 0, api.ErrEarly), at(3, 59, api.ErrEarly))
}

func TestP10_6ScheduleFaults(t *testing.T) {
	checkFaults(t, validWorks, worksError, scheduleFaults())
	for _, c := range []struct {
		starts []int
		n      int
		e      api.Errno
	}{
		{[]int{0, 30, 50, 60}, 65, api.OK},
		{[]int{20, 0, 50, 60}, 65, api.OK},
		{[]int{20, 0, 49, 60}, 2, api.ErrBusy},
		{[]int{20, 0, 49, -1}, 2, api.ErrBusy},
		{[]int{20, 0, 10, 60}, 2, api.ErrEarly},
		{[]int{0, 29, -1, -1}, 1, api.ErrBusy},
		{[]int{0, 30, 49, 0}, 2, api.ErrEarly},
		{[]int{0, 30, 50, 59}, 3, api.ErrEarly},
		{[]int{10000001, 0, 0, 0}, 0, api.ErrRange},
		{[]int{10000000, 0, 20, 10000000}, 3, api.ErrEarly},
		{[]int{10000000, 10000001, 0, 0}, 1, api.ErrRange},
		{[]int{9999970, 0, 20, 10000000}, 10000005, api.OK},
		{[]int{9999970, 9999950, 9999970, 10000000}, 2, api.ErrBusy},
		{[]int{100, 0, 9999990, 10000000}, 10000005, api.OK},
	} {
		if n, e := shop.CheckSchedule(validWorks().l, c.starts); n != c.n || e != c.e {
			t.Error(c.starts, n, e)
		}
	}
	// the end is not always that of the last job
	if n, e := shop.CheckSchedule(chapterJobs(), []int{200, 0, 20}); n != 230 || e != api.OK {
		t.Error(n, e)
	}
	if n, e := shop.CheckSchedule([]api.Job{job("a", "x", "p", 10000)}, []int{10000000}); n != 10010000 || e != api.OK {
		t.Error(n, e)
	}
}

// someJobs is right jobs.
func someJobs(random *rand.Rand, count, minutes int) []api.Job {
	var l []api.Job
	for n := range count {
		j := job("j"+strconv.Itoa(n), "x"+strconv.Itoa(random.IntN(4)), "x"+strconv.Itoa(random.IntN(4)), 1+random.IntN(minutes))
		for _, before := range random.Perm(n) {
			if len(j.After) < 10 && random.IntN(n+1) == 0 {
				j.After = append(j.After, "j"+strconv.Itoa(before))
			}
		}
		l = append(l, j)
	}
	return l
}

// calendar has what is done in each minute: the names of machines with an "m", of persons with a "p" ahead.
type calendar map[int]map[string]bool

// refusalIn is the error of a job with a start, as minutes tell it; ends has the ends of the jobs ahead.
func (c calendar) refusalIn(j api.Job, start int, ends map[string]int) api.Errno {
	for _, name := range j.After {
		if start < ends[name] {
			return api.ErrEarly
		}
	}
	for minute := start; minute < start+j.Minutes; minute++ {
		if c[minute]["m"+j.Machine] || c[minute]["p"+j.Person] {
			return api.ErrBusy
		}
	}
	return api.OK
}

func (c calendar) add(j api.Job, start int) {
	for minute := start; minute < start+j.Minutes; minute++ {
		if c[minute] == nil {
			c[minute] = map[string]bool{}
		}
		c[minute]["m"+j.Machine], c[minute]["p"+j.Person] = true, true
	}
}

// scheduleBy is the first schedule, found minute by minute.
func scheduleBy(l []api.Job) []int {
	c, ends, starts := calendar{}, map[string]int{}, []int{}
	for _, j := range l {
		start := 0
		for c.refusalIn(j, start, ends) != api.OK {
			start++
		}
		c.add(j, start)
		ends[j.Name] = start + j.Minutes
		starts = append(starts, start)
	}
	return starts
}

// checkBy is the result of CheckSchedule, found minute by minute.
func checkBy(l []api.Job, starts []int) (int, api.Errno) {
	c, ends, end := calendar{}, map[string]int{}, 0
	for i, j := range l {
		if e := c.refusalIn(j, starts[i], ends); e != api.OK {
			return i, e
		}
		c.add(j, starts[i])
		ends[j.Name] = starts[i] + j.Minutes
		end = max(end, ends[j.Name])
	}
	return end, api.OK
}

// longestRow is the most minutes of a row of jobs that ends with a job, found by trying all.
func longestRow(l []api.Job, last api.Job) int {
	most := 0
	for _, j := range l {
		if slices.Contains(last.After, j.Name) {
			most = max(most, longestRow(l, j))
		}
	}
	return most + last.Minutes
}

// leastEndBy is what LeastEnd is to be.
func leastEndBy(l []api.Job) int {
	least := 0
	for _, j := range l {
		machine, person := 0, 0
		for _, other := range l {
			if other.Machine == j.Machine {
				machine += other.Minutes
			}
			if other.Person == j.Person {
				person += other.Minutes
			}
		}
		least = max(least, machine, person, longestRow(l, j))
	}
	return least
}

func TestP10_6AgainstReference(t *testing.T) {
	random := rand.New(rand.NewPCG(10, 66))
	counts := map[api.Errno]int{}
	reached := 0
	for range 1500 {
		l := someJobs(random, random.IntN(12), 1+random.IntN(12))
		starts, e := shop.Schedule(l)
		if !slices.Equal(starts, scheduleBy(l)) || e != api.OK {
			t.Fatal(l, starts, e)
		}
		least, e := shop.LeastEnd(l)
		if least != leastEndBy(l) || e != api.OK {
			t.Fatal(l, least, e)
		}
		for round := range 6 {
			n, e := shop.CheckSchedule(l, starts)
			if want, wantError := checkBy(l, starts); n != want || e != wantError {
				t.Fatal(l, starts, n, e, want, wantError)
			}
			if counts[e]++; e == api.OK && n == least {
				reached++
			}
			if round == 0 && e != api.OK {
				t.Fatal("the first schedule is refused", l, starts, n, e)
			}
			for range min(len(l), 1) {
				starts[random.IntN(len(l))] = random.IntN(40)
			}
		}
	}
	if counts[api.OK] < 1500 || counts[api.ErrBusy] < 500 || counts[api.ErrEarly] < 500 || reached < 100 {
		t.Error("too few of a kind", counts, reached)
	}
}

// TestP10_6LongRows checks rows of many jobs.
func TestP10_6LongRows(t *testing.T) {
	l, want := manyJobs(60), 0
	for i := range l {
		l[i].Minutes = 10000 - i
		want += 10000 - i
		for before := i - 1; before >= max(0, i-10); before-- {
			l[i].After = append(l[i].After, l[before].Name)
		}
	}
	least, e := shop.LeastEnd(l)
	starts, e2 := shop.Schedule(l)
	end, e3 := shop.CheckSchedule(l, starts)
	if least != want || end != want || agree(t, e, e2, e3) != api.OK {
		t.Error(least, end, want, e)
	}
}

// TestP10_12Schedules checks that first schedules are right, and that no right schedule ends ahead of LeastEnd.
func TestP10_12Schedules(t *testing.T) {
	random := rand.New(rand.NewPCG(10, 12))
	right := 0
	for range 1500 {
		l := someJobs(random, 1+random.IntN(60), 10000)
		least, e := shop.LeastEnd(l)
		starts, e2 := shop.Schedule(l)
		end, e3 := shop.CheckSchedule(l, starts)
		if agree(t, e, e2, e3) != api.OK || end < least {
			t.Fatal(l, starts, end, least, e, e2, e3)
		}
		// any job is moved: what is accepted does not end ahead either, and none of those ahead of it could start earlier
		i := random.IntN(len(l))
		starts[i] = max(0, starts[i]-1-random.IntN(3000))
		if end, e := shop.CheckSchedule(l[:i+1], starts[:i+1]); e == api.OK && starts[i] > 0 {
			t.Fatal("an earlier start is right", l, starts, i, end)
		}
		starts[i] = random.IntN(math.MaxInt16)
		if end, e := shop.CheckSchedule(l, starts); e == api.OK {
			if right++; end < least {
				t.Fatal(l, starts, end, least)
			}
		}
	}
	if right < 20 {
		t.Error("too few", right)
	}
}
