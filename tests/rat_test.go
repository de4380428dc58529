package tests

import (
	"math/big"
	"slices"
	"testing"

	"loop.example/s0015/impl"
)

// invalidRats fail to be valid, each in a way of its own.
func invalidRats() []impl.Rat {
	return []impl.Rat{
		{},
		{Neg: true},
		{Num: []uint32{1}},
		{Num: []uint32{1}, Den: []uint32{0}},
		{Num: []uint32{1}, Den: []uint32{0, 0}},
		{Den: []uint32{0}},
		{Num: []uint32{0}, Den: []uint32{1}},
		{Num: []uint32{1, 0}, Den: []uint32{1}},
		{Num: []uint32{1}, Den: []uint32{1, 0}},
		{Num: []uint32{3, 0, 0}, Den: []uint32{2, 0}},
		{Den: []uint32{2}},
		{Den: []uint32{0, 1}},
		{Neg: true, Den: []uint32{1}},
		{Neg: true, Den: []uint32{5}},
		{Num: []uint32{2}, Den: []uint32{2}},
		{Num: []uint32{6}, Den: []uint32{4}},
		{Neg: true, Num: []uint32{3}, Den: []uint32{9}},
		{Num: []uint32{0, 1}, Den: []uint32{2}},
		{Num: []uint32{2}, Den: []uint32{0, 1}},
		{Num: []uint32{0, 0, 3}, Den: []uint32{0, 0, 0, 5}},
		{Num: []uint32{1, 2, 3}, Den: []uint32{1, 2, 3}},
	}
}

// validRats has zero, whole numbers and fractions of both signs, near each other and far apart.
func validRats() []impl.Rat {
	list := []impl.Rat{}
	for n := int64(-7); n <= 7; n++ {
		for d := int64(1); d <= 6; d++ {
			if new(big.Int).GCD(nil, nil, big.NewInt(max(n, -n)), big.NewInt(d)).Int64() == 1 {
				list = append(list, rat(n, d))
			}
		}
	}
	list = append(list,
		rat(0xffffffff, 1),
		rat(-0xffffffff, 1),
		rat(0x100000000, 1),
		rat(0x100000000, 0xffffffff),
		rat(-1, 0x100000000),
		rat(0xffffffff, 0x7fffffffffffffff),
	)
	d := newDraws(4)
	for range 40 {
		list = append(list, d.rat(4))
	}
	return list
}

// validByWords is the document's own list, asked one by one.
func validByWords(r impl.Rat) bool {
	top, bottom := bigOf(r.Num), bigOf(r.Den)
	if !isPlain(r.Num) || !isPlain(r.Den) || bottom.Sign() == 0 {
		return false
	}
	if new(big.Int).GCD(nil, nil, top, bottom).Cmp(big.NewInt(1)) != 0 {
		return false
	}
	return top.Sign() != 0 || !r.Neg
}

func TestP2OkOfValidOnes(t *testing.T) {
	for _, r := range validRats() {
		if !impl.RatOk(r) {
			t.Errorf("%v is valid", r)
		}
	}
	if !impl.RatOk(impl.Rat{Num: []uint32{}, Den: []uint32{1}}) {
		t.Errorf("zero with an empty list that is not nil is valid")
	}
}

func TestP2OkOfInvalidOnes(t *testing.T) {
	for _, r := range invalidRats() {
		if impl.RatOk(r) {
			t.Errorf("%v is not valid", r)
		}
	}
}

func TestP2OkOfAnyLists(t *testing.T) {
	lists := append(edgeLists(), []uint32{4}, []uint32{6}, []uint32{9}, []uint32{0, 6}, []uint32{0, 0, 9})
	for _, num := range lists {
		for _, den := range lists {
			for _, neg := range []bool{false, true} {
				r := impl.Rat{Neg: neg, Num: num, Den: den}
				if got, want := impl.RatOk(r), validByWords(r); got != want {
					t.Errorf("%v: got %v", r, got)
				}
			}
		}
	}
}

// forRats gives each pair of valid Rats, then many drawn ones.
func forRats(check func(a impl.Rat, b impl.Rat)) {
	for _, a := range validRats() {
		for _, b := range validRats() {
			check(a, b)
		}
	}
	d := newDraws(5)
	for range 2000 {
		check(d.rat(5), d.rat(5))
		check(d.kin())
	}
}

// kin are two Rats with factors of one row above and below, so that sums and products often cancel in part.
func (d *draws) kin() (impl.Rat, impl.Rat) {
	factors := []*big.Int{big.NewInt(1), big.NewInt(2), big.NewInt(12), big.NewInt(0x7fffffff), bigOf(d.list(3)), bigOf(d.list(3))}
	some := func() *big.Int {
		product := big.NewInt(1)
		for range d.below(5) {
			product.Mul(product, factors[d.below(len(factors))])
		}
		return product
	}
	one := func() impl.Rat {
		top, bottom := some(), some()
		if bottom.Sign() == 0 {
			bottom.SetInt64(3)
		}
		if d.below(2) == 0 {
			top.Neg(top)
		}
		return ratOf(new(big.Rat).SetFrac(top, bottom))
	}
	return one(), one()
}

func TestP2Sum(t *testing.T) {
	forRats(func(a impl.Rat, b impl.Rat) {
		wantRat(t, "sum", impl.RatAdd(a, b), ratOf(new(big.Rat).Add(valueOf(a), valueOf(b))))
	})
}

func TestP2SumsThatCancel(t *testing.T) {
	for _, a := range validRats() {
		opposite := ratOf(new(big.Rat).Neg(valueOf(a)))
		wantRat(t, "a - a", impl.RatAdd(a, opposite), rat(0, 1))
		wantRat(t, "-a + a", impl.RatAdd(opposite, a), rat(0, 1))
	}
	wantRat(t, "1/6 + 1/3", impl.RatAdd(rat(1, 6), rat(1, 3)), rat(1, 2))
	wantRat(t, "5/6 - 1/3", impl.RatAdd(rat(5, 6), rat(-1, 3)), rat(1, 2))
	wantRat(t, "1/3 - 5/6", impl.RatAdd(rat(1, 3), rat(-5, 6)), rat(-1, 2))
}

func TestP2Product(t *testing.T) {
	forRats(func(a impl.Rat, b impl.Rat) {
		wantRat(t, "product", impl.RatMul(a, b), ratOf(new(big.Rat).Mul(valueOf(a), valueOf(b))))
	})
}

func TestP2Quotient(t *testing.T) {
	forRats(func(a impl.Rat, b impl.Rat) {
		got, ok := impl.RatDiv(a, b)
		if len(b.Num) == 0 {
			wantRat(t, "divided by zero", got, rat(0, 1))
			if ok {
				t.Errorf("%v divided by zero: true", a)
			}
			return
		}
		wantRat(t, "quotient", got, ratOf(new(big.Rat).Quo(valueOf(a), valueOf(b))))
		if !ok {
			t.Errorf("%v divided by %v: false", a, b)
		}
	})
}

func TestP2Order(t *testing.T) {
	forRats(func(a impl.Rat, b impl.Rat) {
		if got, want := impl.RatCmp(a, b), valueOf(a).Cmp(valueOf(b)); got != want {
			t.Errorf("%v and %v: got %d, want %d", a, b, got, want)
		}
	})
}

func TestP2OrderOfEqualOnes(t *testing.T) {
	for _, a := range validRats() {
		if got := impl.RatCmp(a, copyRat(a)); got != 0 {
			t.Errorf("%v and itself: %d", a, got)
		}
	}
}

// wantRefusal asks for the fixed answers at a pair with a Rat that is not valid.
func wantRefusal(t *testing.T, a impl.Rat, b impl.Rat) {
	t.Helper()
	wantRat(t, "sum", impl.RatAdd(a, b), rat(0, 1))
	wantRat(t, "product", impl.RatMul(a, b), rat(0, 1))
	got, ok := impl.RatDiv(a, b)
	wantRat(t, "quotient", got, rat(0, 1))
	if ok {
		t.Errorf("%v divided by %v: true", a, b)
	}
	if order := impl.RatCmp(a, b); order != 2 {
		t.Errorf("%v and %v: %d", a, b, order)
	}
}

func TestP2InvalidArguments(t *testing.T) {
	for _, ill := range invalidRats() {
		for _, good := range []impl.Rat{rat(0, 1), rat(1, 1), rat(-5, 3), rat(0x100000000, 3)} {
			wantRefusal(t, ill, good)
			wantRefusal(t, good, ill)
		}
		for _, other := range invalidRats() {
			wantRefusal(t, ill, other)
		}
	}
}

// ratAnswers gives the Rats of all answers that are Rats.
func ratAnswers(a impl.Rat, b impl.Rat) []impl.Rat {
	quotient, _ := impl.RatDiv(a, b)
	return []impl.Rat{impl.RatAdd(a, b), impl.RatMul(a, b), quotient}
}

func ratSpoiled(r impl.Rat, before impl.Rat) bool {
	return r.Neg != before.Neg || spoiled(r.Num, before.Num) || spoiled(r.Den, before.Den)
}

func TestP2ArgumentsStayAndAnswersAreNew(t *testing.T) {
	some := append(invalidRats(), rat(0, 1), rat(1, 1), rat(-1, 1), rat(6, 5), rat(-5, 6), rat(0x100000000, 7))
	for _, a := range some {
		for _, b := range some {
			first, second := copyRat(a), copyRat(b)
			impl.RatOk(first)
			impl.RatCmp(first, second)
			impl.RatText(first)
			for _, answer := range ratAnswers(first, second) {
				den := slices.Clone(answer.Den)
				overwrite(answer.Num)
				if !slices.Equal(answer.Den, den) {
					t.Fatalf("%v and %v: the lists of an answer share memory", a, b)
				}
				overwrite(answer.Den)
			}
			if ratSpoiled(first, a) || ratSpoiled(second, b) {
				t.Fatalf("%v and %v: an argument was changed, or an answer shares its memory", a, b)
			}
			for i, answer := range ratAnswers(first, second) {
				if !impl.RatOk(answer) {
					t.Fatalf("%v and %v: answer %d is not valid any more", a, b, i)
				}
			}
		}
	}
}

func TestP2OneRatAsBothArguments(t *testing.T) {
	for _, r := range validRats() {
		value := valueOf(r)
		wantRat(t, "double", impl.RatAdd(r, r), ratOf(new(big.Rat).Add(value, value)))
		wantRat(t, "square", impl.RatMul(r, r), ratOf(new(big.Rat).Mul(value, value)))
		if len(r.Num) != 0 {
			one, ok := impl.RatDiv(r, r)
			wantRat(t, "by itself", one, rat(1, 1))
			if !ok {
				t.Errorf("%v by itself: false", r)
			}
		}
	}
}
