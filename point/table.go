package point

import (
	"slices"

	"speculum/api"
)

const maxRow = 1000000 // places and values of a table, in size

// CheckTable is the first error of a table.
func CheckTable(l []api.SkyRow) api.Errno {
	if !areWithin(1, api.MaxSkyRows, len(l)) {
		return api.ErrShape
	}
	for i, row := range l {
		switch {
		case !areSmall(maxRow, row.At, row.Value):
			return api.ErrRange
		case i > 0 && row.At <= l[i-1].At:
			return api.ErrOrder
		}
	}
	return api.OK
}

// TableAt is the value of a table at a place.
func TableAt(l []api.SkyRow, at int) (int, api.Errno) {
	if e := CheckTable(l); e != api.OK {
		return 0, e
	}
	if !areSmall(maxRow, at) {
		return 0, api.ErrRange
	}
	return valueAt(l, at), api.OK
}

// valueAt is the value of a right table at a place.
func valueAt(l []api.SkyRow, at int) int {
	behind := slices.IndexFunc(l, func(row api.SkyRow) bool { return row.At > at })
	switch behind {
	case -1:
		return l[len(l)-1].Value
	case 0:
		return l[0].Value
	}
	a, b := l[behind-1], l[behind]
	return a.Value + down((b.Value-a.Value)*(at-a.At), b.At-a.At)
}
