package support

import (
	"iter"
	"slices"

	"speculum/api"
)

// tree is rockers that have been checked.
type tree struct {
	levers map[string]api.Rocker // by their names: what has another name is a point
	top    string
	points []string // in their order
}

// checkRocker is the error of a rocker alone.
func checkRocker(r api.Rocker, isKnown bool) api.Errno {
	switch {
	case !isName(r.Name):
		return api.ErrName
	case isKnown:
		return api.ErrExists
	case !isName(r.Left) || !isName(r.Right):
		return api.ErrName
	case !areWithin(1, api.MaxArm, r.ArmLeft, r.ArmRight):
		return api.ErrRange
	}
	return api.OK
}

// leversOf is rockers by their names, or their first error.
func leversOf(l []api.Rocker) (map[string]api.Rocker, api.Errno) {
	if len(l) == 0 {
		return nil, api.ErrShape
	}
	if len(l) > api.MaxRockers {
		return nil, api.ErrLarge
	}
	levers := map[string]api.Rocker{}
	for _, r := range l {
		_, isKnown := levers[r.Name]
		if e := checkRocker(r, isKnown); e != api.OK {
			return nil, e
		}
		levers[r.Name] = r
	}
	return levers, api.OK
}

// borneOf is what rockers bear. It reports false if they bear a name twice.
func borneOf(l []api.Rocker) (map[string]bool, bool) {
	borne := map[string]bool{}
	for _, r := range l {
		if borne[r.Left] || borne[r.Right] || r.Left == r.Right {
			return nil, false
		}
		borne[r.Left], borne[r.Right] = true, true
	}
	return borne, true
}

// treeOf is the tree that rockers make, or the first reason why they make none.
func treeOf(l []api.Rocker) (tree, api.Errno) {
	levers, e := leversOf(l)
	if e != api.OK {
		return tree{}, e
	}
	t := tree{levers: levers}
	borne, ok := borneOf(l)
	if !ok {
		return tree{}, api.ErrClash
	}
	if slices.ContainsFunc(l, t.bearsItself) {
		return tree{}, api.ErrCycle
	}
	// Without a circle, one at least is borne by none.
	tops := slices.DeleteFunc(slices.Clone(l), func(r api.Rocker) bool { return borne[r.Name] })
	if len(tops) > 1 {
		return tree{}, api.ErrOpen
	}
	t.top = tops[0].Name
	for thing := range t.hanging(t.top) {
		if _, isLever := levers[thing]; !isLever {
			t.points = append(t.points, thing)
		}
	}
	return t, api.OK
}

// treeFor is the tree that rockers make, if a list for its points has so many items.
func treeFor(l []api.Rocker, items int) (tree, api.Errno) {
	t, e := treeOf(l)
	if e != api.OK {
		return tree{}, e
	}
	if items != len(t.points) {
		return tree{}, api.ErrShape
	}
	return t, api.OK
}

// hanging yields a thing and all that hangs below it, from left to right, each lever ahead of what it bears.
func (t tree) hanging(thing string) iter.Seq[string] {
	return func(yield func(string) bool) {
		waiting := []string{thing}
		for len(waiting) > 0 {
			last := len(waiting) - 1
			next := waiting[last]
			waiting = waiting[:last]
			if !yield(next) {
				return
			}
			if r, isLever := t.levers[next]; isLever {
				waiting = append(waiting, r.Right, r.Left)
			}
		}
	}
}

// bearsItself tells whether a rocker hangs below itself, if nothing is borne twice. It comes to an end: a circle that
// hangs below the rocker, but not through it, would bear one of its rockers twice.
func (t tree) bearsItself(r api.Rocker) bool {
	for _, arm := range []string{r.Left, r.Right} {
		for thing := range t.hanging(arm) {
			if thing == r.Name {
				return true
			}
		}
	}
	return false
}

// CheckTree is the first reason why rockers make no tree.
func CheckTree(l []api.Rocker) api.Errno {
	_, e := treeOf(l)
	return e
}

// Top is the name of the rocker that is borne by none.
func Top(l []api.Rocker) (string, api.Errno) {
	t, e := treeOf(l)
	return t.top, e
}

// Points is the points from left to right.
func Points(l []api.Rocker) ([]string, api.Errno) {
	t, e := treeOf(l)
	return t.points, e
}
