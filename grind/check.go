package grind

import "speculum/api"

// check tells, when it is called, the error of something.
type check func() api.Errno

// firstOf is the error of the first check that has one. Those behind it are not made, so that a check may rest on the
// ones before it.
func firstOf(checks ...check) api.Errno {
	for _, c := range checks {
		if e := c(); e != api.OK {
			return e
		}
	}
	return api.OK
}

// need makes the check that something holds.
func need(holds bool, otherwise api.Errno) check {
	return func() api.Errno {
		if holds {
			return api.OK
		}
		return otherwise
	}
}

// named makes the check that a text is a name.
func named(text string) check {
	return need(isName(text), api.ErrName)
}

// within makes the check that all numbers are in range.
func within(least, most int, numbers ...int) check {
	return func() api.Errno {
		for _, n := range numbers {
			if !isWithin(n, least, most) {
				return api.ErrRange
			}
		}
		return api.OK
	}
}

// each makes the check of as many items, one after the other.
func each(count int, errorOf func(item int) api.Errno) check {
	return func() api.Errno {
		for item := range count {
			if e := errorOf(item); e != api.OK {
				return e
			}
		}
		return api.OK
	}
}
