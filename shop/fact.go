package shop

import (
	"strings"

	"speculum/api"
	"speculum/blank"
	"speculum/coat"
	"speculum/grind"
	"speculum/profile"
)

const maxWrittenDay = 999999 // the day of a delivery's text: 6 digits

// fact is what the text of a fact says.
type fact interface {
	// enter adds the fact to the state of a book, or is the error with which it is refused; then nothing changes.
	enter(b *book) api.Errno
}

type (
	order    api.MirrorOrder
	promise  api.GlassPromise
	session  api.GrindSession
	reading  api.MirrorReading
	coating  api.CoatEvent
	signing  struct{ mirror, signer string }
	delivery api.Delivery
)

// checkLine is the error of a text that is to be a line of a journal.
func checkLine(text string) api.Errno {
	switch {
	case len(text) > api.MaxFact:
		return api.ErrLarge
	case strings.Contains(text, "\n"):
		return api.ErrSyntax
	}
	return api.OK
}

// parseFact is the fact with a text.
func parseFact(text string) (fact, api.Errno) {
	if e := checkLine(text); e != api.OK {
		return nil, e
	}
	word, rest, hasRest := strings.Cut(text, " ")
	if !hasRest {
		return nil, api.ErrSyntax
	}
	switch word {
	case "order":
		x, e := ParseOrder(rest)
		return order(x), e
	case "promise":
		x, e := blank.ParsePromise(rest)
		return promise(x), e
	case "session":
		x, e := grind.ParseSession(rest)
		return session(x), e
	case "reading":
		x, e := profile.ParseReading(rest)
		return reading(x), e
	case "coat":
		x, e := coat.ParseCoating(rest)
		return coating(x), e
	case "sign":
		return parseSigning(rest)
	case "deliver":
		return parseDelivery(rest)
	}
	return nil, api.ErrKind
}

func parseSigning(rest string) (fact, api.Errno) {
	words, ok := split(rest, 2)
	if !ok {
		return nil, api.ErrSyntax
	}
	return signing{mirror: words[0], signer: words[1]}, api.OK
}

func parseDelivery(rest string) (fact, api.Errno) {
	words, ok := split(rest, 2)
	if !ok {
		return nil, api.ErrSyntax
	}
	day, isNumber := readNumber(words[1], maxWrittenDay)
	if !isNumber {
		return nil, api.ErrSyntax
	}
	return delivery{Mirror: words[0], Day: day}, api.OK
}

func (x order) enter(b *book) api.Errno {
	if _, isOrdered := oneOf(b.Orders, x.Mirror); isOrdered {
		return api.ErrExists
	}
	if len(b.Orders) == api.MaxOrders {
		return api.ErrFull
	}
	b.Orders = append(b.Orders, api.MirrorOrder(x))
	return api.OK
}

func (x promise) enter(b *book) api.Errno {
	if e := b.checkMirror(x.Mirror); e != api.OK {
		return e
	}
	promises, e := blank.AddPromise(b.shop.Batches, b.Promises, api.GlassPromise(x))
	if e != api.OK {
		return e
	}
	b.Promises = promises
	return api.OK
}

func (x session) enter(b *book) api.Errno {
	if e := b.checkMirror(x.Mirror); e != api.OK {
		return e
	}
	sessions, e := grind.AddSession(b.shop.Strokes, b.shop.Demand, b.Sessions, api.GrindSession(x))
	if e != api.OK {
		return e
	}
	b.Sessions = sessions
	return api.OK
}

func (x reading) enter(b *book) api.Errno {
	if e := b.checkMirror(x.Mirror); e != api.OK {
		return e
	}
	var before []api.HeightReading
	for _, r := range of(b.Readings, x.Mirror) {
		before = append(before, r.Reading)
	}
	if _, e := profile.AddReading(b.shop.Zones, before, x.Reading); e != api.OK {
		return e
	}
	b.Readings = append(b.Readings, api.MirrorReading(x))
	return api.OK
}

func (x coating) enter(b *book) api.Errno {
	if e := b.checkMirror(x.Mirror); e != api.OK {
		return e
	}
	if _, e := coat.Next(b.shop.Aging, of(b.Coatings, x.Mirror), api.CoatEvent(x)); e != api.OK {
		return e
	}
	b.Coatings = append(b.Coatings, api.CoatEvent(x))
	return api.OK
}

func (x signing) enter(b *book) api.Errno {
	if !areNames(x.signer) {
		return api.ErrName
	}
	if e := b.checkMirror(x.mirror); e != api.OK {
		return e
	}
	last, readings := b.lastCertificate(x.mirror), of(b.Readings, x.mirror)
	if last.Readings == len(readings) {
		return api.ErrState
	}
	b.Certificates = append(b.Certificates, certify(last, x.signer, readings))
	return api.OK
}

func (x delivery) enter(b *book) api.Errno {
	if !isWithin(x.Day, 0, api.MaxDay) {
		return api.ErrRange
	}
	if e := b.checkMirror(x.Mirror); e != api.OK {
		return e
	}
	if _, isPromised := oneOf(b.Promises, x.Mirror); !isPromised {
		return api.ErrGap
	}
	last := b.lastCertificate(x.Mirror)
	if last.Number == 0 || last.Readings < len(of(b.Readings, x.Mirror)) {
		return api.ErrState
	}
	b.Deliveries = append(b.Deliveries, api.Delivery(x))
	return api.OK
}
