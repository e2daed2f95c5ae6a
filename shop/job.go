package shop

import (
	"slices"

	"speculum/api"
)

const (
	maxJob   = 10000 // minutes of a job
	maxAfter = 10    // jobs that a job stands behind
)

func machineOf(j api.Job) string { return j.Machine }
func personOf(j api.Job) string  { return j.Person }

// checkJob is the error of a job behind others, whose names are known.
func checkJob(j api.Job, known map[string]bool) api.Errno {
	switch {
	case !areNames(j.Name, j.Machine, j.Person):
		return api.ErrName
	case known[j.Name]:
		return api.ErrExists
	case !isWithin(j.Minutes, 1, maxJob):
		return api.ErrRange
	case len(j.After) > maxAfter:
		return api.ErrLarge
	}
	for i, name := range j.After {
		if !known[name] {
			return api.ErrMissing
		}
		if slices.Contains(j.After[:i], name) {
			return api.ErrExists
		}
	}
	return api.OK
}

// CheckJobs is the first error of jobs, with the number of the job that has it.
func CheckJobs(l []api.Job) (int, api.Errno) {
	if len(l) > api.MaxJobs {
		return 0, api.ErrLarge
	}
	known := map[string]bool{}
	for n, j := range l {
		if e := checkJob(j, known); e != api.OK {
			return n, e
		}
		known[j.Name] = true
	}
	return 0, api.OK
}

// plan is jobs that have starts, and when they end, by their names.
type plan struct {
	jobs   []api.Job
	starts []int
	ends   map[string]int
}

func newPlan() *plan {
	return &plan{ends: map[string]int{}}
}

// add gives one more job its start.
func (p *plan) add(j api.Job, start int) {
	p.jobs, p.starts = append(p.jobs, j), append(p.starts, start)
	p.ends[j.Name] = start + j.Minutes
}

// ready is the minute at which all jobs have ended that a job stands behind.
func (p *plan) ready(j api.Job) int {
	minute := 0
	for _, name := range j.After {
		minute = max(minute, p.ends[name])
	}
	return minute
}

// busyUntil is the end of a job of the plan that is in the way of another one: it has the same machine or person, and a
// minute in common with it if it starts at start. Without such a job it is start.
func (p *plan) busyUntil(j api.Job, start int) int {
	for n, other := range p.jobs {
		isRival := other.Machine == j.Machine || other.Person == j.Person
		if end := p.ends[other.Name]; isRival && start < end && p.starts[n] < start+j.Minutes {
			return end
		}
	}
	return start
}

// end is the greatest end of a job.
func (p *plan) end() int {
	last := 0
	for _, j := range p.jobs {
		last = max(last, p.ends[j.Name])
	}
	return last
}

// Schedule is the first schedule of jobs. What is in the way of a job at a minute is so up to its end.
func Schedule(l []api.Job) ([]int, api.Errno) {
	if _, e := CheckJobs(l); e != api.OK {
		return nil, e
	}
	p := newPlan()
	for _, j := range l {
		start := p.ready(j)
		for until := p.busyUntil(j, start); until > start; until = p.busyUntil(j, start) {
			start = until
		}
		p.add(j, start)
	}
	return p.starts, api.OK
}

// CheckSchedule is the end of a right schedule, or the number of the first job whose start is wrong.
func CheckSchedule(l []api.Job, starts []int) (int, api.Errno) {
	if _, e := CheckJobs(l); e != api.OK {
		return 0, e
	}
	if len(starts) != len(l) {
		return 0, api.ErrShape
	}
	p := newPlan()
	for n, j := range l {
		if !isWithin(starts[n], 0, api.MaxMinute) {
			return n, api.ErrRange
		}
		if starts[n] < p.ready(j) {
			return n, api.ErrEarly
		}
		if p.busyUntil(j, starts[n]) > starts[n] {
			return n, api.ErrBusy
		}
		p.add(j, starts[n])
	}
	return p.end(), api.OK
}

// greatestLoad is the most minutes that jobs have together of which the same is said.
func greatestLoad(l []api.Job, said func(j api.Job) string) int {
	loads, greatest := map[string]int{}, 0
	for _, j := range l {
		loads[said(j)] += j.Minutes
		greatest = max(greatest, loads[said(j)])
	}
	return greatest
}

// LeastEnd is a minute ahead of which no right schedule ends. The longest row of jobs is as long as they take if each one
// starts as soon as it is ready.
func LeastEnd(l []api.Job) (int, api.Errno) {
	if _, e := CheckJobs(l); e != api.OK {
		return 0, e
	}
	rows := newPlan()
	for _, j := range l {
		rows.add(j, rows.ready(j))
	}
	return max(greatestLoad(l, machineOf), greatestLoad(l, personOf), rows.end()), api.OK
}
