package shop

import (
	"strings"

	"speculum/api"
)

// card is the card of a mirror.
func (b *book) card(mirror string) (string, api.Errno) {
	o, isOrdered := oneOf(b.Orders, mirror)
	if !isOrdered {
		return "", api.ErrMissing
	}
	lines := []string{join("order", FormatOrder(o))}
	if p, isPromised := oneOf(b.Promises, mirror); isPromised {
		lines = append(lines, join("blank", p.Batch))
	}
	sessions, minutes := of(b.Sessions, mirror), 0
	for _, s := range sessions {
		minutes += s.Minutes
	}
	lines = append(lines,
		join("sessions", len(sessions), minutes),
		join("readings", len(of(b.Readings, mirror))),
		join("coatings", len(of(b.Coatings, mirror))),
	)
	for _, c := range of(b.Certificates, mirror) {
		lines = append(lines, join("signed", c.Number, c.Signer, c.Readings, c.Sum))
	}
	if d, isDelivered := oneOf(b.Deliveries, mirror); isDelivered {
		paid, _ := b.payment(mirror) // it is ordered and delivered
		lines = append(lines, join("delivered", d.Day, paid))
	}
	return strings.Join(lines, "\n") + "\n", api.OK
}

// Card is the card of a mirror.
func Card(x api.Shop, facts []string, mirror string) (string, api.Errno) {
	b, _, e := bookOf(x, facts)
	if e != api.OK {
		return "", e
	}
	return b.card(mirror)
}

// written is how a result is written, or the error beside it.
func written(result any, e api.Errno) string {
	if e != api.OK {
		return join("error", e)
	}
	return join(result)
}

// sizeOf is how many bytes the journal of facts has.
func sizeOf(facts []string) (int, api.Errno) {
	journal, e := Journal(facts)
	return len(journal), e
}

// do does what a line says, and is what is written then.
func (b *book) do(line string) string {
	word, rest, hasRest := strings.Cut(line, " ")
	switch {
	case line == "earned":
		return written(b.earned(), api.OK)
	case line == "journal":
		return written(sizeOf(b.facts))
	case hasRest && word == "do":
		return written("ok", b.accept(rest))
	case hasRest && word == "pay":
		return written(b.payment(rest))
	case hasRest && word == "card":
		card, e := b.card(rest)
		return written(strings.TrimSuffix(card, "\n"), e)
	}
	return written("", api.ErrSyntax)
}

// Do is the facts behind a line of the console, and what is written. Facts that are refused have a journal all the same.
func Do(x api.Shop, facts []string, line string) ([]string, string) {
	b, _, e := bookOf(x, facts)
	switch {
	case e == api.OK:
		text := b.do(line)
		return b.facts, text
	case line == "journal":
		return nil, written(sizeOf(facts))
	}
	return nil, written("", e)
}
