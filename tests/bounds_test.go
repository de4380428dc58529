package tests

import (
	"math/big"
	"slices"
	"sync"
	"testing"

	"loop.example/s0015/impl"
)

func clipped(value *big.Rat) *big.Rat {
	if value.Sign() < 0 {
		return new(big.Rat)
	}
	return value
}

// boundsByWords is Bounds for a valid net and a box for its input.
func boundsByWords(n impl.Net, lo []impl.Rat, hi []impl.Rat) []impl.Span {
	spans := []impl.Span{}
	l, u := valuesOf(lo), valuesOf(hi)
	for _, a := range n.Maps {
		span := impl.Span{}
		nextL, nextU := []*big.Rat{}, []*big.Rat{}
		for r := range a.Rows {
			low, high := valueOf(a.B[r]), valueOf(a.B[r])
			for c := range a.Cols {
				w := valueOf(a.W[r*a.Cols+c])
				if w.Sign() >= 0 {
					low, high = plus(low, times(w, l[c])), plus(high, times(w, u[c]))
				} else {
					low, high = plus(low, times(w, u[c])), plus(high, times(w, l[c]))
				}
			}
			span.Lo, span.Hi = append(span.Lo, ratOf(low)), append(span.Hi, ratOf(high))
			nextL, nextU = append(nextL, clipped(low)), append(nextU, clipped(high))
		}
		spans = append(spans, span)
		l, u = nextL, nextU
	}
	return spans
}

func sameSpan(a impl.Span, b impl.Span) bool {
	return sameRats(a.Lo, b.Lo) && sameRats(a.Hi, b.Hi)
}

func showSpans(spans []impl.Span) string {
	out := ""
	for _, s := range spans {
		out += "[" + numbersOf(s.Lo) + " | " + numbersOf(s.Hi) + "]"
	}
	return out
}

func stretchesOfSpans(spans []impl.Span) []stretch {
	held := []stretch{stretchOf(spans)}
	for _, s := range spans {
		held = append(held, stretchesOfRats(s.Lo)...)
		held = append(held, stretchesOfRats(s.Hi)...)
	}
	return held
}

func wantSpans(t *testing.T, n impl.Net, lo []impl.Rat, hi []impl.Rat, want []impl.Span) {
	t.Helper()
	got, ok := impl.Bounds(n, lo, hi)
	if !ok || !slices.EqualFunc(got, want, sameSpan) {
		t.Errorf("%s in %s .. %s: got %s, %v, want %s", showNet(n), numbersOf(lo), numbersOf(hi), showSpans(got), ok, showSpans(want))
	}
}

func wantNoSpans(t *testing.T, what string, n impl.Net, lo []impl.Rat, hi []impl.Rat) {
	t.Helper()
	if got, ok := impl.Bounds(n, lo, hi); ok || len(got) != 0 {
		t.Errorf("%s, %s: got %s, %v", what, showNet(n), showSpans(got), ok)
	}
}

// span is one from the texts of its numbers.
func span(lo string, hi string) impl.Span {
	return impl.Span{Lo: nums(lo), Hi: nums(hi)}
}

func TestP11SpansByHand(t *testing.T) {
	one := affine(1, 1, "1", "0")
	carried := netOf(affine(3, 1, "1 -1 1", "0 0 0"), affine(1, 3, "1 -1 1", "0"))
	cases := []struct {
		n      impl.Net
		lo, hi string
		want   []impl.Span
	}{
		{netOf(affine(1, 2, "2 -3", "1")), "-1 1", "2 4", []impl.Span{span("-13", "2")}},
		{netOf(affine(3, 2, "0 0 1/2 0 0 -1/3", "5 -1 0")), "-1 1", "2 4", []impl.Span{span("5 -3/2 -4/3", "5 0 -1/3")}},
		{netOf(affine(1, 3, "0 -2 7", "-4")), "-1 -1 -1", "1 1 1", []impl.Span{span("-13", "5")}},
		{netOf(one, affine(1, 1, "2", "1")), "-3", "2", []impl.Span{span("-3", "2"), span("1", "5")}},
		{netOf(one, affine(1, 1, "-2", "1")), "-3", "2", []impl.Span{span("-3", "2"), span("-3", "1")}},
		{netOf(one, affine(1, 1, "0", "1")), "-3", "2", []impl.Span{span("-3", "2"), span("1", "1")}},
		{netOf(one, affine(1, 1, "-2", "1")), "-3", "-1", []impl.Span{span("-3", "-1"), span("1", "1")}},
		{netOf(one, affine(1, 1, "-2", "1")), "1", "3", []impl.Span{span("1", "3"), span("-5", "-1")}},
		{netOf(one, one, one), "-3", "-1", []impl.Span{span("-3", "-1"), span("0", "0"), span("0", "0")}},
		{netOf(one, affine(1, 1, "-1", "1"), affine(1, 1, "3", "-1/2")), "-3", "2", []impl.Span{span("-3", "2"), span("-1", "1"), span("-1/2", "5/2")}},
		{carried, "-1", "1", []impl.Span{span("-1 -1 -1", "1 1 1"), span("-1", "2")}},
		{carried, "0", "0", []impl.Span{span("0 0 0", "0 0 0"), span("0", "0")}},
		{carried, "2", "5", []impl.Span{span("2 -5 2", "5 -2 5"), span("4", "10")}},
	}
	for _, c := range cases {
		wantSpans(t, c.n, nums(c.lo), nums(c.hi), c.want)
		if byWords := boundsByWords(c.n, nums(c.lo), nums(c.hi)); !slices.EqualFunc(byWords, c.want, sameSpan) {
			t.Errorf("%s: by the words it is %s, not %s", showNet(c.n), showSpans(byWords), showSpans(c.want))
		}
	}
}

// The input itself is not put through ReLU, and neither is the result.
func TestP11EndsOfTheNet(t *testing.T) {
	wantSpans(t, netOf(affine(1, 1, "1", "0")), nums("-5"), nums("-2"), []impl.Span{span("-5", "-2")})
	wantSpans(t, netOf(affine(1, 1, "-1", "0")), nums("-5"), nums("-2"), []impl.Span{span("2", "5")})
	wantSpans(t, netOf(affine(1, 1, "-1", "0"), affine(1, 1, "-1", "0")), nums("-5"), nums("-2"), []impl.Span{span("2", "5"), span("-5", "-2")})
}

func TestP11MapsWithoutRowsOrColumns(t *testing.T) {
	none := []impl.Rat{}
	wantSpans(t, netOf(flat(0, 0)), none, nil, []impl.Span{{}})
	wantSpans(t, netOf(flat(0, 2)), nums("1 2"), nums("1 3"), []impl.Span{{}})
	wantSpans(t, netOf(affine(2, 0, "", "-1/2 3")), nil, none, []impl.Span{span("-1/2 3", "-1/2 3")})
	wantSpans(t, netOf(flat(0, 1), affine(2, 0, "", "-4 5"), affine(1, 2, "1 1", "0")), nums("-9"), nums("9"),
		[]impl.Span{{}, span("-4 5", "-4 5"), span("5", "5")})
	wantSpans(t, netOf(affine(1, 1, "1", "0"), flat(0, 1), flat(0, 0), affine(1, 0, "", "-5")), nums("-9"), nums("9"),
		[]impl.Span{span("-9", "9"), {}, {}, span("-5", "-5")})
	wantNoSpans(t, "a box for no column", netOf(flat(2, 0)), nums("1"), nums("1"))
	wantNoSpans(t, "no box for columns without rows", netOf(flat(0, 2)), nil, nil)
	wantNoSpans(t, "an empty box that no row looks at", netOf(flat(0, 1)), nums("1"), nums("0"))
	wantNoSpans(t, "an ill element that no row looks at", netOf(flat(0, 1)), []impl.Rat{{}}, []impl.Rat{{}})
}

func TestP11NetsAtTheirGreatest(t *testing.T) {
	many := flat(impl.MaxCells, 0)
	wantSpans(t, netOf(many), nil, nil, []impl.Span{{Lo: many.B, Hi: many.B}})
	wide := impl.Affine{Rows: 1, Cols: impl.MaxCells - 1, W: repeated(rat(-1, 2), impl.MaxCells-1), B: nums("1/2")}
	wantSpans(t, netOf(wide), repeated(rat(-1, 1), impl.MaxCells-1), repeated(rat(3, 1), impl.MaxCells-1), []impl.Span{span("-29998", "10000")})
	square := impl.Affine{Rows: 100, Cols: 199, W: repeated(rat(1, 3), 100*199), B: repeated(rat(1, 7), 100)}
	wantSpans(t, netOf(square), repeated(rat(0, 1), 199), repeated(rat(1, 2), 199),
		[]impl.Span{{Lo: repeated(rat(1, 7), 100), Hi: repeated(rat(1399, 42), 100)}})
	up := netOf(repeated(affine(1, 1, "1", "1"), impl.MaxMaps)...)
	spans, ok := impl.Bounds(up, nums("-1"), nums("1/2"))
	if !ok || len(spans) != impl.MaxMaps {
		t.Fatalf("a long chain: %d spans, %v", len(spans), ok)
	}
	if last := spans[impl.MaxMaps-1]; !sameSpan(last, span("9999", "20001/2")) {
		t.Errorf("a long chain ends in %s", showSpans([]impl.Span{last}))
	}
}

// box is one for a number of elements; sides of no length are among it.
func (d *draws) box(size int) ([]impl.Rat, []impl.Rat) {
	lo, hi := d.smalls(size), []impl.Rat{}
	for _, low := range lo {
		hi = append(hi, impl.RatAdd(low, rat(int64(d.below(7)), int64(1+d.below(3)))))
	}
	return lo, hi
}

// within is a box inside another.
func (d *draws) within(lo []impl.Rat, hi []impl.Rat) ([]impl.Rat, []impl.Rat) {
	innerLo, innerHi := d.inBox(lo, hi), d.inBox(lo, hi)
	for c := range lo {
		if valueOf(innerLo[c]).Cmp(valueOf(innerHi[c])) > 0 {
			innerLo[c], innerHi[c] = innerHi[c], innerLo[c]
		}
	}
	return innerLo, innerHi
}

func isWithin(low impl.Rat, high impl.Rat, outer impl.Span, r int) bool {
	return valueOf(outer.Lo[r]).Cmp(valueOf(low)) <= 0 && valueOf(high).Cmp(valueOf(outer.Hi[r])) <= 0
}

// neuronsAt are the elements that leave each map at an input.
func neuronsAt(n impl.Net, x []impl.Rat) [][]impl.Rat {
	values := [][]impl.Rat{}
	for k := range n.Maps {
		values = append(values, mapsByWords(netOf(n.Maps[:k+1]...), x))
	}
	return values
}

func TestP11DrawnNets(t *testing.T) {
	d := newDraws(41)
	for range 1500 {
		n := d.net(5)
		lo, hi := d.box(n.Maps[0].Cols)
		wantSpans(t, n, lo, hi, boundsByWords(n, lo, hi))
	}
}

func TestP11ValuesLieInTheirSpans(t *testing.T) {
	d := newDraws(42)
	touched := 0
	for range 600 {
		n := d.net(4)
		lo, hi := d.box(n.Maps[0].Cols)
		spans, ok := impl.Bounds(n, lo, hi)
		if !ok {
			t.Fatalf("%s: no spans", showNet(n))
		}
		for range 4 {
			x := d.inBox(lo, hi)
			for k, values := range neuronsAt(n, x) {
				for r, value := range values {
					if !isWithin(value, value, spans[k], r) {
						t.Errorf("%s at %s: row %d of map %d is %s, outside %s", showNet(n), numbersOf(x), r, k, impl.RatText(value), showSpans(spans))
					}
					if sameRat(value, spans[k].Lo[r]) || sameRat(value, spans[k].Hi[r]) {
						touched++
					}
				}
			}
		}
	}
	if touched < 500 {
		t.Errorf("%d values lay at an end of their span: the draws ask too little", touched)
	}
}

func TestP11ABoxOfOnePoint(t *testing.T) {
	d := newDraws(43)
	for range 400 {
		n := d.net(5)
		x := d.smalls(n.Maps[0].Cols)
		want := []impl.Span{}
		for _, values := range neuronsAt(n, x) {
			want = append(want, impl.Span{Lo: values, Hi: values})
		}
		wantSpans(t, n, x, x, want)
	}
}

func TestP11ABoxInsideAnother(t *testing.T) {
	d := newDraws(44)
	for range 500 {
		n := d.net(4)
		lo, hi := d.box(n.Maps[0].Cols)
		innerLo, innerHi := d.within(lo, hi)
		outer, ok := impl.Bounds(n, lo, hi)
		inner, innerOk := impl.Bounds(n, innerLo, innerHi)
		if !ok || !innerOk || len(inner) != len(outer) {
			t.Fatalf("%s: no spans", showNet(n))
		}
		for k := range inner {
			for r := range inner[k].Lo {
				if !isWithin(inner[k].Lo[r], inner[k].Hi[r], outer[k], r) {
					t.Errorf("%s: the inner box gives %s, the outer %s", showNet(n), showSpans(inner), showSpans(outer))
				}
			}
		}
	}
}

func TestP11LongNumbers(t *testing.T) {
	d := newDraws(45)
	for range 30 {
		long := func(count int) []impl.Rat {
			list := []impl.Rat{}
			for range count {
				list = append(list, d.rat(10))
			}
			return list
		}
		n := netOf(impl.Affine{Rows: 3, Cols: 2, W: long(6), B: long(3)}, impl.Affine{Rows: 2, Cols: 3, W: long(6), B: long(2)})
		lo := long(2)
		hi := []impl.Rat{impl.RatAdd(lo[0], rat(1, 3)), impl.RatAdd(lo[1], rat(5, 1))}
		wantSpans(t, n, lo, hi, boundsByWords(n, lo, hi))
	}
}

func TestP11BoxesThatAreNone(t *testing.T) {
	n := netOf(affine(1, 2, "1 1", "0"), affine(3, 1, "1 2 3", "0 0 0"))
	good := []impl.Span{span("0", "4"), span("0 0 0", "4 8 12")}
	wantSpans(t, n, nums("-1 1"), nums("1 3"), good)
	wantNoSpans(t, "nil", n, nil, nil)
	wantNoSpans(t, "lo nil", n, nil, nums("1 3"))
	wantNoSpans(t, "hi nil", n, nums("-1 1"), nil)
	wantNoSpans(t, "both short", n, nums("-1"), nums("1"))
	wantNoSpans(t, "both long", n, nums("-1 1 0"), nums("1 3 0"))
	wantNoSpans(t, "lo short", n, nums("-1"), nums("1 3"))
	wantNoSpans(t, "lo long", n, nums("-1 1 0"), nums("1 3"))
	wantNoSpans(t, "hi short", n, nums("-1 1"), nums("1"))
	wantNoSpans(t, "hi long", n, nums("-1 1"), nums("1 3 0"))
	wantNoSpans(t, "crossed first", n, nums("2 1"), nums("1 3"))
	wantNoSpans(t, "crossed last", n, nums("-1 1"), nums("1 0"))
	wantNoSpans(t, "crossed by little", n, nums("-1 1/3"), nums("1 333333333333/1000000000000"))
	wantNoSpans(t, "crossed at a weight of zero", netOf(flat(1, 1)), nums("1"), nums("0"))
	wantSpans(t, n, nums("-1 1/3"), nums("-1 1/3"), boundsByWords(n, nums("-1 1/3"), nums("-1 1/3")))
	for _, ill := range invalidRats() {
		for c := range 2 {
			lo, hi := nums("-1 1"), nums("1 3")
			lo[c] = ill
			wantNoSpans(t, "lo not valid", n, lo, hi)
			hi[c] = ill
			wantNoSpans(t, "both not valid", n, lo, hi)
			wantNoSpans(t, "hi not valid", n, nums("-1 1"), hi)
		}
	}
}

func TestP11NetsThatAreNotValid(t *testing.T) {
	for _, n := range badNets() {
		wantNoSpans(t, "no box", n, nil, nil)
		wantNoSpans(t, "a box of one element", n, nums("0"), nums("1"))
		if len(n.Maps) > 0 && n.Maps[0].Cols >= 0 && n.Maps[0].Cols <= 2*impl.MaxCells {
			wantNoSpans(t, "a box of as many elements as columns", n, repeated(rat(0, 1), n.Maps[0].Cols), repeated(rat(1, 1), n.Maps[0].Cols))
		}
	}
	d := newDraws(46)
	for range 1000 {
		n := d.net(4)
		lo, hi := d.box(n.Maps[0].Cols)
		d.spoilNet(&n)
		if !netOkByWords(n) {
			wantNoSpans(t, "spoiled", n, lo, hi)
		}
	}
}

// All rows are worked out at once, and so may all calls be.
func TestP11TheSameAnswerEveryTime(t *testing.T) {
	d := newDraws(47)
	n := netOf(
		impl.Affine{Rows: 60, Cols: 20, W: d.smalls(1200), B: d.smalls(60)},
		impl.Affine{Rows: 60, Cols: 60, W: d.smalls(3600), B: d.smalls(60)},
	)
	lo, hi := d.box(20)
	want := boundsByWords(n, lo, hi)
	calls := sync.WaitGroup{}
	for range 8 {
		calls.Go(func() {
			for range 3 {
				wantSpans(t, n, lo, hi, want)
			}
		})
	}
	calls.Wait()
}

func TestP11ArgumentsStayAndAnswersAreNew(t *testing.T) {
	same := affine(2, 2, "1 0 0 1", "0 0")
	nets := []impl.Net{
		wholeNet(), netOf(same), netOf(same, same), netOf(flat(2, 2)), netOf(affine(2, 2, "0 0 0 0", "5 5")), netOf(affine(2, 2, "0 1 0 -1", "5 5")),
		netOf(flat(0, 2), affine(3, 0, "", "5 5 -1/2")), netOf(flat(0, 2), affine(3, 0, "", "5 5 -1/2"), affine(2, 3, "0 0 0 0 0 0", "1/2 1/2")),
	}
	for _, n := range nets {
		for _, box := range [][2]string{{"1/2 3", "1/2 3"}, {"0 0", "1 1"}, {"-1 -1", "0 0"}, {"-1 -2", "1 1"}} {
			own, lo, hi := copyNet(n), copyRats(nums(box[0])), copyRats(nums(box[1]))
			first, _ := impl.Bounds(own, lo, hi)
			again, _ := impl.Bounds(own, lo, hi)
			held := slices.Concat(stretchesOfNet(own), stretchesOfRats(lo), stretchesOfRats(hi), stretchesOfSpans(first), stretchesOfSpans(again))
			if overlap(held) {
				t.Errorf("%s in %v: memory of an answer is shared", showNet(n), box)
			}
			if netSpoiled(own, n) || ratsSpoiled(lo, nums(box[0])) || ratsSpoiled(hi, nums(box[1])) {
				t.Errorf("%s in %v: an argument was changed", showNet(n), box)
			}
		}
	}
}

// One list may stand at several places of the arguments.
func TestP11ArgumentsThatShareMemory(t *testing.T) {
	shared := nums("-1/2 3")
	n := netOf(impl.Affine{Rows: 2, Cols: 1, W: shared, B: shared}, impl.Affine{Rows: 1, Cols: 2, W: shared, B: shared[:1]})
	wantSpans(t, n, shared[:1], shared[1:], boundsByWords(n, shared[:1], shared[1:]))
	wantSpans(t, n, shared[1:], shared[1:], boundsByWords(n, shared[1:], shared[1:]))
}
