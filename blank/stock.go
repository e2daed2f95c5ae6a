package blank

import (
	"slices"
	"strings"

	"speculum/api"
)

const maxBatch = 1000 // blanks of a batch

// CheckBatches tells whether a stock is valid.
func CheckBatches(s []api.GlassBatch) api.Errno {
	had := map[string]bool{}
	return firstOf(
		need(len(s) <= api.MaxGlassBatches, api.ErrLarge),
		each(s, func(b api.GlassBatch) api.Errno {
			isKnown := had[b.Name]
			had[b.Name] = true
			return firstOf(
				need(isName(b.Name), api.ErrName),
				need(!isKnown, api.ErrExists),
				within(b.Diameter, 1, maxDiameter),
				within(b.Thick, 1, maxThick),
				within(b.Count, 0, maxBatch),
			)
		}),
	)
}

// promised is what is left of each batch by its name, or the first error of the stock and its promises.
func promised(s []api.GlassBatch, l []api.GlassPromise) (map[string]int, api.Errno) {
	if e := CheckBatches(s); e != api.OK {
		return nil, e
	}
	if len(l) > api.MaxGlassPromises {
		return nil, api.ErrLarge
	}
	left, served := map[string]int{}, map[string]bool{}
	for _, b := range s {
		left[b.Name] = b.Count
	}
	for _, p := range l {
		if e := take(left, served, p); e != api.OK {
			return nil, e
		}
	}
	return left, api.OK
}

// take takes the blank of a promise from what is left of the batches. served has the mirrors of the promises before.
func take(left map[string]int, served map[string]bool, p api.GlassPromise) api.Errno {
	count, isBatch := left[p.Batch]
	e := firstOf(
		need(isName(p.Mirror), api.ErrName),
		need(!served[p.Mirror], api.ErrExists),
		need(isBatch, api.ErrMissing),
		need(count > 0, api.ErrStock),
	)
	if e == api.OK {
		served[p.Mirror] = true
		left[p.Batch] = count - 1
	}
	return e
}

// CheckPromises tells whether promises of a stock are valid.
func CheckPromises(s []api.GlassBatch, l []api.GlassPromise) api.Errno {
	_, e := promised(s, l)
	return e
}

// AddPromise is the promises with one more behind them.
func AddPromise(s []api.GlassBatch, l []api.GlassPromise, p api.GlassPromise) ([]api.GlassPromise, api.Errno) {
	if e := CheckPromises(s, l); e != api.OK {
		return nil, e
	}
	more := append(slices.Clone(l), p)
	if e := CheckPromises(s, more); e != api.OK {
		return nil, e
	}
	return more, api.OK
}

// LeftOf is what is left of each batch.
func LeftOf(s []api.GlassBatch, l []api.GlassPromise) ([]int, api.Errno) {
	left, e := promised(s, l)
	if e != api.OK {
		return nil, e
	}
	counts := make([]int, len(s))
	for i, b := range s {
		counts[i] = left[b.Name]
	}
	return counts, api.OK
}

// FirstBatch is the name of the batch with the smallest blanks that have at least the diameter and the thickness that
// are wanted, of those of which something is left.
func FirstBatch(s []api.GlassBatch, l []api.GlassPromise, want [2]int) (string, api.Errno) {
	left, e := promised(s, l)
	if e != api.OK {
		return "", e
	}
	if !isWithin(want[0], 1, maxDiameter) || !isWithin(want[1], 1, maxThick) {
		return "", api.ErrRange
	}
	name, least := "", 0
	for _, b := range s {
		if left[b.Name] == 0 || b.Diameter < want[0] || b.Thick < want[1] {
			continue
		}
		if size := b.Diameter * b.Diameter * b.Thick; name == "" || size < least {
			name, least = b.Name, size
		}
	}
	if name == "" {
		return "", api.ErrNone
	}
	return name, api.OK
}

// FormatPromise is the text of a promise, whether it is valid or not.
func FormatPromise(p api.GlassPromise) string {
	return join(p.Mirror, p.Batch)
}

// ParsePromise is the promise with a text. Its words are copied, as a result keeps nothing of the text.
func ParsePromise(s string) (api.GlassPromise, api.Errno) {
	mirror, batch, ok := strings.Cut(s, " ")
	if !ok || strings.Contains(batch, " ") {
		return api.GlassPromise{}, api.ErrSyntax
	}
	return api.GlassPromise{Mirror: strings.Clone(mirror), Batch: strings.Clone(batch)}, api.OK
}
