package blank

import "speculum/api"

// check tells, when it is called, whether something is as it should be.
type check func() api.Errno

// firstOf is the error of the first check that has one. Those behind it are not made, so that a check may rest on the
// ones before it.
func firstOf(checks ...check) api.Errno {
	for _, c := range checks {
		if e := c(); e != api.OK {
			return e
		}
	}
	return api.OK
}

// need makes the check that something holds.
func need(holds bool, otherwise api.Errno) check {
	return func() api.Errno {
		if holds {
			return api.OK
		}
		return otherwise
	}
}

// within makes the check that a number is not out of range.
func within(n, least, most int) check {
	return need(isWithin(n, least, most), api.ErrRange)
}

// each makes the check of all items of a list, one by one.
func each[T any](items []T, errorOf func(item T) api.Errno) check {
	return func() api.Errno {
		for _, item := range items {
			if e := errorOf(item); e != api.OK {
				return e
			}
		}
		return api.OK
	}
}
