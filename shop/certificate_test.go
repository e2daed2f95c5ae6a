package shop_test

import (
	"math"
	"math/big"
	"math/rand/v2"
	"slices"
	"strconv"
	"strings"
	"testing"

	"speculum/api"
	"speculum/profile"
	"speculum/shop"
)

// sumBy is a sum by whole numbers of any size: the remainder is taken at the end.
func sumBy(before int, text string) int {
	sum, step := big.NewInt(int64(before)), big.NewInt(257)
	for _, b := range []byte(text) {
		sum.Mul(sum, step).Add(sum, big.NewInt(int64(b)+1))
	}
	return int(sum.Mod(sum, big.NewInt(999999937)).Int64())
}

func certificate(mirror, signer string, number, readings, sum int) api.Certificate {
	return api.Certificate{Mirror: mirror, Signer: signer, Number: number, Readings: readings, Sum: sum}
}

// certificatesBy is the certificates of right facts, of a mirror (or of all), from the texts of the facts alone.
func certificatesBy(x api.Shop, facts []string, mirror string) []api.Certificate {
	var l []api.Certificate
	last, waiting, seen := map[string]api.Certificate{}, map[string]string{}, map[string]int{}
	for _, text := range facts {
		word, rest, _ := strings.Cut(text, " ")
		name, signer, _ := strings.Cut(rest, " ")
		switch word {
		case "reading":
			waiting[name] += rest + "\n"
			seen[name]++
		case "sign":
			c, before := last[name], x.Key
			if c.Number > 0 {
				before = c.Sum
			}
			c = certificate(name, signer, c.Number+1, seen[name], 0)
			c.Sum = sumBy(before, waiting[name]+name+" "+strconv.Itoa(c.Number)+" "+signer+" "+strconv.Itoa(c.Readings)+"\n")
			last[name], waiting[name] = c, ""
			if mirror == "" || mirror == name {
				l = append(l, c)
			}
		}
	}
	return l
}

func TestP10_4Certificates(t *testing.T) {
	for _, c := range []struct {
		mirror string
		want   []api.Certificate
		signed int
	}{
		{"m1", []api.Certificate{
			certificate("m1", "eve", 1, 1, sumBy(7, "m1 0 1 5 9\nm1 1 eve 1\n")),
			certificate("m1", "sam", 2, 2, sumBy(sumBy(7, "m1 0 1 5 9\nm1 1 eve 1\n"), "m1 1 2 -7 8\nm1 2 sam 2\n")),
		}, 2},
		{"m2", []api.Certificate{certificate("m2", "eve", 1, 1, sumBy(7, "m2 1 2 -20 0\nm2 1 eve 1\n"))}, 1},
		{"m3", nil, 0},
	} {
		facts := append(entryBase(), "reading m2 0 1 3 4", "reading m3 0 1 5 6")
		l, e := shop.Certificates(fullShop(), facts, c.mirror)
		if !slices.Equal(l, c.want) || e != api.OK {
			t.Error(c.mirror, l, e)
		}
		r, e := shop.Signed(fullShop(), facts, c.mirror)
		if !slices.Equal(r, readingsOf(facts, c.mirror)[:c.signed]) || e != api.OK {
			t.Error(c.mirror, r, e)
		}
		if n, e := shop.CheckCertificates(7, l, readingsOf(facts, c.mirror)); n != c.signed || e != api.OK {
			t.Error(c.mirror, n, e)
		}
	}
}

// TestP10_4Missing checks that there are no certificates, cards and payments of a mirror without an order.
func TestP10_4Missing(t *testing.T) {
	for _, mirror := range append([]string{"m4", "M1", "m", "m1-", "m1 ", " m1", "ann"}, badNames...) {
		v := validVisit()
		v.mirror = mirror
		if e := agree(t, mirrorError(t, v), paymentError(t, v)); e != api.ErrMissing {
			t.Errorf("%q: %d", mirror, e)
		}
		v.facts = nil
		if e := agree(t, mirrorError(t, v), paymentError(t, v)); e != api.ErrMissing {
			t.Errorf("%q: %d", mirror, e)
		}
		v.facts = []string{"x"}
		if e := agree(t, mirrorError(t, v), paymentError(t, v)); e != api.ErrSyntax {
			t.Errorf("%q: %d", mirror, e)
		}
	}
}

// papers is the arguments of CheckCertificates, of which valid ones are accepted.
type papers struct {
	key      int
	l        []api.Certificate
	readings []api.MirrorReading
}

func readingOf(mirror string, from, to, lo, hi int) api.MirrorReading {
	return api.MirrorReading{Mirror: mirror, Reading: api.HeightReading{From: from, To: to, Diff: span(lo, hi)}}
}

// sign gives certificates their sums, whatever else is wrong with them.
func (p papers) sign() papers {
	before, at := p.key, 0
	for i, c := range p.l {
		var text strings.Builder
		for ; at < c.Readings && at < len(p.readings); at++ {
			text.WriteString(profile.FormatReading(p.readings[at]) + "\n")
		}
		text.WriteString(strings.Join([]string{c.Mirror, strconv.Itoa(c.Number), c.Signer, strconv.Itoa(c.Readings)}, " ") + "\n")
		p.l[i].Sum = sumBy(before, text.String())
		before = p.l[i].Sum
	}
	return p
}

// validPapers is three certificates with six readings, one of which is signed by none.
func validPapers() papers {
	return papers{12345678, []api.Certificate{certificate("m", "eve", 1, 2, 0), certificate("m", "sam", 2, 3, 0), certificate("m", "eve", 3, 5, 0)}, []api.MirrorReading{
		readingOf("m", 0, 1, 5, 9), readingOf("m", 1, 2, -20, 0), readingOf("m", 0, 2, -1000000, 1000000), readingOf("m", 0, 1, 5, 9), readingOf("m", 39, 0, 7, 7), readingOf("m", 0, 1, 0, 0),
	}}.sign()
}

func papersError(t *testing.T, p papers) api.Errno {
	t.Helper()
	n, e := shop.CheckCertificates(p.key, p.l, p.readings)
	none(t, e, n == 0)
	return e
}

// certificateFaults are the faults of a certificate but for its sum; before is how many readings the one before has.
func certificateFaults(i, before int) []fault[papers] {
	faults := []fault[papers]{}
	if i > 0 {
		for _, mirror := range []string{"", "M", "mm", "n"} {
			faults = append(faults, fault[papers]{func(p *papers) { p.l[i].Mirror = mirror }, api.ErrClash})
		}
	}
	for _, number := range []int{i - 1, i, i + 2, 0 - i - 1, math.MinInt, math.MaxInt} {
		faults = append(faults, fault[papers]{func(p *papers) { p.l[i].Number = number }, api.ErrOrder})
	}
	for _, readings := range []int{before, before - 1, 0, -1, math.MinInt} {
		faults = append(faults, fault[papers]{func(p *papers) { p.l[i].Readings = readings }, api.ErrOrder})
	}
	for _, readings := range []int{7, 200, math.MaxInt} {
		faults = append(faults, fault[papers]{func(p *papers) { p.l[i].Readings = readings }, api.ErrMissing})
	}
	return faults
}

// otherMirror is the fault that a reading is of another mirror.
func otherMirror(reading int) []fault[papers] {
	return []fault[papers]{{func(p *papers) { p.readings[reading].Mirror = "n" }, api.ErrClash}}
}

// sumFaults are the faults of the sum of a certificate.
func sumFaults(i int) []fault[papers] {
	return []fault[papers]{
		{func(p *papers) { p.l[i].Sum = validPapers().l[i].Sum + 1 }, api.ErrSum},
		{func(p *papers) { p.l[i].Sum = validPapers().l[i].Sum - 999999937 }, api.ErrSum},
		{func(p *papers) { p.l[i].Sum = math.MaxInt }, api.ErrSum},
		{func(p *papers) { p.l[i].Signer = "zoe" }, api.ErrSum},
	}
}

func TestP10_4CheckFaults(t *testing.T) {
	faults := numberFaults(func(p *papers) *int { return &p.key }, 1, 999999936, api.ErrRange)
	faults = append(faults,
		fault[papers]{func(p *papers) { p.l = make([]api.Certificate, 201) }, api.ErrLarge},
		fault[papers]{func(p *papers) { p.readings = make([]api.MirrorReading, 201) }, api.ErrLarge},
	)
	faults = slices.Concat(faults, certificateFaults(0, 0), otherMirror(0), otherMirror(1), sumFaults(0),
		certificateFaults(1, 2), otherMirror(2), sumFaults(1),
		certificateFaults(2, 3), otherMirror(3), otherMirror(4), sumFaults(2))
	checkFaults(t, validPapers, papersError, faults)
	// the first certificate has the mirror to which the readings must belong
	p := validPapers()
	p.l[0].Mirror = "n"
	if e := papersError(t, p); e != api.ErrClash {
		t.Error(e)
	}
	// readings behind the last certificate are not looked at
	p = validPapers()
	p.readings[5].Mirror = "n"
	if n, e := shop.CheckCertificates(p.key, p.l, p.readings); n != 5 || e != api.OK {
		t.Error(n, e)
	}
	for _, key := range []int{1, 999999936} {
		p = validPapers()
		p.key = key
		if e := papersError(t, p); e != api.ErrSum {
			t.Error(e)
		}
		if e := papersError(t, p.sign()); e != api.OK {
			t.Error(e)
		}
	}
}

// TestP10_4Sizes checks certificates of many readings, many certificates, and none.
func TestP10_4Sizes(t *testing.T) {
	p := papers{key: 1}
	for n := range 200 {
		p.readings = append(p.readings, readingOf("a b\n", n, -n, math.MinInt+n, math.MaxInt))
		p.l = append(p.l, certificate("a b\n", "", n+1, n+1, 0))
	}
	p.sign()
	for count := range 201 {
		if n, e := shop.CheckCertificates(p.key, p.l[:count], p.readings); n != count || e != api.OK {
			t.Error(count, n, e)
		}
		if n, e := shop.CheckCertificates(p.key, p.l[:count], p.readings[:count]); n != count || e != api.OK {
			t.Error(count, n, e)
		}
		if n, e := shop.CheckCertificates(p.key, p.l, p.readings[:count]); count < 200 && (n != 0 || e != api.ErrMissing) {
			t.Error(count, n, e)
		}
	}
	if n, e := shop.CheckCertificates(1, nil, []api.MirrorReading{readingOf("a", 0, 1, 0, 0), readingOf("b", 0, 1, 0, 0)}); n != 0 || e != api.OK {
		t.Error(n, e)
	}
	one := papers{key: 5, l: []api.Certificate{certificate("", "", 1, 200, 0)}, readings: make([]api.MirrorReading, 200)}.sign()
	if n, e := shop.CheckCertificates(5, one.l, one.readings); n != 200 || e != api.OK {
		t.Error(n, e)
	}
}

// TestP10_11Signed checks that certificates of states are accepted, and no longer if a signed reading changes.
func TestP10_11Signed(t *testing.T) {
	random := rand.New(rand.NewPCG(10, 11))
	changes := 0
	for range 60 {
		x := someShop(random)
		facts := someFacts(random, x, 150)
		s, _, _ := shop.StateOf(x, facts)
		for _, o := range s.Orders {
			l, e := shop.Certificates(x, facts, o.Mirror)
			readings := readingsOf(facts, o.Mirror)
			if !slices.Equal(l, certificatesBy(x, facts, o.Mirror)) || e != api.OK {
				t.Fatal(l, e)
			}
			n, e := shop.CheckCertificates(x.Key, l, readings)
			signed, e2 := shop.Signed(x, facts, o.Mirror)
			if e != api.OK || e2 != api.OK || !slices.Equal(signed, readings[:n]) {
				t.Fatal(n, e, e2, signed, readings)
			}
			for i := range n {
				changed := slices.Clone(readings)
				changed[i].Reading.Diff.Hi++
				changes += isRefused(t, x.Key, l, changed)
				changes += isRefused(t, x.Key, l, slices.Delete(slices.Clone(readings), i, i+1))
				changes += isRefused(t, x.Key, l, slices.Insert(slices.Clone(readings), i, readingOf(o.Mirror, 1, 0, -50, 50)))
			}
			if n > 0 && papersError(t, papers{x.Key%999999936 + 1, l, readings}) != api.ErrSum {
				t.Fatal("another key")
			}
		}
		for _, d := range s.Deliveries {
			if n, _ := shop.CheckCertificates(x.Key, certificatesBy(x, facts, d.Mirror), readingsOf(facts, d.Mirror)); n == 0 || n != len(readingsOf(facts, d.Mirror)) {
				t.Fatal("a delivered mirror with other readings than signed ones", d, facts)
			}
		}
	}
	if changes < 500 {
		t.Error("too few", changes)
	}
}

// isRefused checks that certificates with other readings are accepted only if the sums agree. It is 1 if they do not.
func isRefused(t *testing.T, key int, l []api.Certificate, readings []api.MirrorReading) int {
	t.Helper()
	p := papers{key, slices.Clone(l), readings}.sign()
	e := papersError(t, papers{key, l, readings})
	if len(readings) < l[len(l)-1].Readings {
		if e != api.ErrMissing && e != api.ErrSum {
			t.Fatal(e)
		}
		return 1
	}
	if isSame := slices.Equal(p.l, l); isSame != (e == api.OK) || !isSame && e != api.ErrSum {
		t.Fatal(e, p.l, l)
	}
	return int(min(e, 1))
}

// TestP10_10Signed checks that what was signed for a delivered mirror stays, whatever facts come later.
func TestP10_10Signed(t *testing.T) {
	random := rand.New(rand.NewPCG(11, 10))
	deliveries := 0
	for range 60 {
		x := someShop(random)
		facts := someFacts(random, x, 150)
		for n, text := range facts {
			rest, isDelivery := strings.CutPrefix(text, "deliver ")
			if !isDelivery {
				continue
			}
			deliveries++
			mirror := strings.Fields(rest)[0]
			then, e := shop.Signed(x, facts[:n+1], mirror)
			now, e2 := shop.Signed(x, facts, mirror)
			if agree(t, e, e2) != api.OK || len(then) == 0 || !slices.Equal(then, now) || !slices.Equal(now, readingsOf(facts, mirror)) {
				t.Fatal(then, now)
			}
		}
	}
	if deliveries < 30 {
		t.Error("too few", deliveries)
	}
}
