package shop

import (
	"speculum/api"
	"speculum/profile"
)

// origin is what stands ahead of the first certificate of a mirror.
func origin(key int, mirror string) api.Certificate {
	return api.Certificate{Mirror: mirror, Sum: key}
}

// sumBehind is the Sum of a certificate behind another one. readings are all of the mirror.
func sumBehind(before, c api.Certificate, readings []api.MirrorReading) int {
	sum := before.Sum
	for _, r := range readings[before.Readings:c.Readings] {
		sum = SumOf(sum, profile.FormatReading(r)+"\n")
	}
	return SumOf(sum, join(c.Mirror, c.Number, c.Signer, c.Readings)+"\n")
}

// certify is the certificate of all readings of a mirror, behind another one.
func certify(before api.Certificate, signer string, readings []api.MirrorReading) api.Certificate {
	c := api.Certificate{Mirror: before.Mirror, Signer: signer, Number: before.Number + 1, Readings: len(readings)}
	c.Sum = sumBehind(before, c, readings)
	return c
}

// lastCertificate is the last certificate of a mirror, or what stands ahead of the first one.
func (b *book) lastCertificate(mirror string) api.Certificate {
	last := origin(b.shop.Key, mirror)
	for _, c := range of(b.Certificates, mirror) {
		last = c
	}
	return last
}

// orderedIn is the book of facts in which a mirror is ordered.
func orderedIn(x api.Shop, facts []string, mirror string) (*book, api.Errno) {
	b, _, e := bookOf(x, facts)
	if e != api.OK {
		return nil, e
	}
	if _, isOrdered := oneOf(b.Orders, mirror); !isOrdered {
		return nil, api.ErrMissing
	}
	return b, api.OK
}

// Certificates is the certificates of a mirror.
func Certificates(x api.Shop, facts []string, mirror string) ([]api.Certificate, api.Errno) {
	b, e := orderedIn(x, facts, mirror)
	if e != api.OK {
		return nil, e
	}
	return of(b.Certificates, mirror), api.OK
}

// Signed is the readings of a mirror that its last certificate has.
func Signed(x api.Shop, facts []string, mirror string) ([]api.MirrorReading, api.Errno) {
	b, e := orderedIn(x, facts, mirror)
	if e != api.OK {
		return nil, e
	}
	return of(b.Readings, mirror)[:b.lastCertificate(mirror).Readings], api.OK
}

// checkBehind is the error of a certificate behind another one. readings are all of the mirror.
func checkBehind(before, c api.Certificate, readings []api.MirrorReading) api.Errno {
	switch {
	case c.Mirror != before.Mirror:
		return api.ErrClash
	case c.Number != before.Number+1 || c.Readings <= before.Readings:
		return api.ErrOrder
	case c.Readings > len(readings):
		return api.ErrMissing
	}
	for _, r := range readings[before.Readings:c.Readings] {
		if r.Mirror != c.Mirror {
			return api.ErrClash
		}
	}
	if c.Sum != sumBehind(before, c, readings) {
		return api.ErrSum
	}
	return api.OK
}

// CheckCertificates is how many readings the last one of certificates has, if they are those of a mirror with these
// readings.
func CheckCertificates(key int, l []api.Certificate, readings []api.MirrorReading) (int, api.Errno) {
	if !isKey(key) {
		return 0, api.ErrRange
	}
	if len(l) > api.MaxFacts || len(readings) > api.MaxFacts {
		return 0, api.ErrLarge
	}
	if len(l) == 0 {
		return 0, api.OK
	}
	before := origin(key, l[0].Mirror)
	for _, c := range l {
		if e := checkBehind(before, c, readings); e != api.OK {
			return 0, e
		}
		before = c
	}
	return before.Readings, api.OK
}
