package tests

import (
	"math/big"
	"slices"
	"testing"

	"loop.example/s0015/impl"
)

// edgeLists has zero in more than one form, lists that are not plain, and limbs at the ends of their range.
func edgeLists() [][]uint32 {
	const top = 0xffffffff
	const half = 0x80000000
	return [][]uint32{
		nil,
		{},
		{0},
		{0, 0, 0},
		{1},
		{1, 0},
		{2},
		{3, 0, 0},
		{7},
		{half},
		{top},
		{top, 0},
		{0, 1},
		{1, 1},
		{0, 1, 0, 0},
		{top, top},
		{top, half},
		{0, half},
		{top - 1, top},
		{0, 0, 1},
		{1, 0, half},
		{1, 0, 0x20000000},
		{3, 0, half},
		{0, 0, half, half - 1},
		{0, top - 1, half},
		{top, top, top, top},
		{0, 0, 0, 0, 12},
		{5, 4, 3, 2, 1, 0},
	}
}

// forPairs gives each pair of edge lists, then many drawn ones.
func forPairs(check func(a []uint32, b []uint32)) {
	for _, a := range edgeLists() {
		for _, b := range edgeLists() {
			check(a, b)
		}
	}
	d := newDraws(1)
	for range 20000 {
		check(d.list(7), d.list(5))
	}
	for range 50 {
		check(d.list(120), d.list(80))
	}
}

func TestP1Product(t *testing.T) {
	forPairs(func(a []uint32, b []uint32) {
		want := limbsOf(new(big.Int).Mul(bigOf(a), bigOf(b)))
		if got := impl.NatMul(a, b); !slices.Equal(got, want) {
			t.Fatalf("%v * %v: got %v, want %v", a, b, got, want)
		}
	})
}

func TestP1QuotientAndRemainder(t *testing.T) {
	forPairs(func(a []uint32, b []uint32) {
		q, r, ok := impl.NatDivMod(a, b)
		divisor := bigOf(b)
		if divisor.Sign() == 0 {
			if ok || len(q) != 0 || len(r) != 0 {
				t.Fatalf("%v by zero %v: %v %v %v", a, b, q, r, ok)
			}
			return
		}
		if !ok || !isPlain(q) || !isPlain(r) {
			t.Fatalf("%v by %v: %v %v %v", a, b, q, r, ok)
		}
		if bigOf(r).Cmp(divisor) >= 0 {
			t.Fatalf("%v by %v: the remainder %v is too great", a, b, r)
		}
		back := new(big.Int).Mul(bigOf(q), divisor)
		if back.Add(back, bigOf(r)).Cmp(bigOf(a)) != 0 {
			t.Fatalf("%v by %v: %v and %v do not make the dividend", a, b, q, r)
		}
	})
}

// Dividends that are a quotient with digits near 2^32 times the divisor, plus or minus a little, make the guessed
// digits too great, and the dividend too small for them.
func TestP1QuotientDigitsNearTheTop(t *testing.T) {
	digits := []uint32{0, 1, 0x7fffffff, 0x80000000, 0xfffffffe, 0xffffffff}
	d := newDraws(2)
	for range 4000 {
		divisor := append(d.list(4), d.limb(), 1+uint32(d.next()>>33))
		quotient := make([]uint32, 1+d.below(4))
		for i := range quotient {
			quotient[i] = digits[d.below(len(digits))]
		}
		exact := new(big.Int).Mul(bigOf(quotient), bigOf(divisor))
		for _, more := range []int64{-1, 0, 1} {
			dividend := new(big.Int).Add(exact, big.NewInt(more))
			if dividend.Sign() < 0 {
				continue
			}
			wantQ, wantR := new(big.Int).QuoRem(dividend, bigOf(divisor), new(big.Int))
			q, r, ok := impl.NatDivMod(limbsOf(dividend), divisor)
			if !ok || !slices.Equal(q, limbsOf(wantQ)) || !slices.Equal(r, limbsOf(wantR)) {
				t.Fatalf("%v by %v: got %v %v %v", limbsOf(dividend), divisor, q, r, ok)
			}
		}
	}
}

func TestP1GreatestCommonDivisor(t *testing.T) {
	forPairs(func(a []uint32, b []uint32) {
		want := limbsOf(new(big.Int).GCD(nil, nil, bigOf(a), bigOf(b)))
		if got := impl.NatGcd(a, b); !slices.Equal(got, want) {
			t.Fatalf("%v and %v: got %v, want %v", a, b, got, want)
		}
	})
}

// Two drawn numbers seldom share a factor of some length, so here they are given one.
func TestP1GreatestCommonDivisorOfMultiples(t *testing.T) {
	d := newDraws(3)
	for range 2000 {
		shared := d.list(6)
		a := limbsOf(new(big.Int).Mul(bigOf(shared), bigOf(d.list(5))))
		b := limbsOf(new(big.Int).Mul(bigOf(shared), bigOf(d.list(5))))
		want := limbsOf(new(big.Int).GCD(nil, nil, bigOf(a), bigOf(b)))
		if got := impl.NatGcd(a, b); !slices.Equal(got, want) {
			t.Fatalf("%v and %v: got %v, want %v", a, b, got, want)
		}
	}
}

func wantGcd(t *testing.T, a *big.Int, b *big.Int) {
	t.Helper()
	want := limbsOf(new(big.Int).GCD(nil, nil, a, b))
	for _, pair := range [][2]*big.Int{{a, b}, {b, a}} {
		if got := impl.NatGcd(limbsOf(pair[0]), limbsOf(pair[1])); !slices.Equal(got, want) {
			t.Fatalf("%v and %v: got %v, want %v", pair[0], pair[1], got, want)
		}
	}
}

// Neighbours in this row take the most steps there are, with quotients that are all 1.
func TestP1GreatestCommonDivisorOfFibonacciNumbers(t *testing.T) {
	a, b := big.NewInt(0), big.NewInt(1)
	for i := range 1500 {
		wantGcd(t, a, b)
		if i%10 == 0 {
			factor := big.NewInt(int64(i) + 2)
			wantGcd(t, new(big.Int).Mul(a, factor), new(big.Int).Mul(b, factor))
			wantGcd(t, new(big.Int).Mul(a, b), new(big.Int).Mul(b, b))
		}
		a, b = b, new(big.Int).Add(a, b)
	}
}

// Numbers that begin alike, are multiples of each other or nearly so, or of very different lengths.
func TestP1GreatestCommonDivisorOfLongNumbers(t *testing.T) {
	d := newDraws(4)
	for range 400 {
		a, b, c := bigOf(d.list(60)), bigOf(d.list(60)), bigOf(d.list(3))
		little := new(big.Int).SetUint64(d.next() >> d.below(64))
		near := new(big.Int).Add(a, little)
		multiple := new(big.Int).Mul(a, c)
		wantGcd(t, a, b)
		wantGcd(t, a, near)
		wantGcd(t, a, multiple)
		wantGcd(t, a, new(big.Int).Add(multiple, little))
		wantGcd(t, near, multiple)
		wantGcd(t, new(big.Int).Mul(near, b), new(big.Int).Mul(multiple, b))
		wantGcd(t, new(big.Int).Mul(a, b), c)
		wantGcd(t, new(big.Int).Lsh(a, uint(d.below(100))), new(big.Int).Lsh(b, uint(d.below(100))))
	}
	for range 5 {
		wantGcd(t, bigOf(d.list(900)), bigOf(d.list(900)))
	}
}

func TestP1GreatestCommonDivisorWithZero(t *testing.T) {
	zeros := [][]uint32{nil, {0}, {0, 0}}
	for _, zero := range zeros {
		for _, other := range zeros {
			if got := impl.NatGcd(zero, other); len(got) != 0 {
				t.Errorf("zero %v and zero %v: %v", zero, other, got)
			}
		}
		for _, b := range [][]uint32{{1}, {9, 0}, {0, 0, 6}, {1, 2, 3, 0, 0}} {
			want := limbsOf(bigOf(b))
			if got := impl.NatGcd(zero, b); !slices.Equal(got, want) {
				t.Errorf("zero %v and %v: %v", zero, b, got)
			}
			if got := impl.NatGcd(b, zero); !slices.Equal(got, want) {
				t.Errorf("%v and zero %v: %v", b, zero, got)
			}
		}
	}
}

// natAnswers gives the lists of all three answers.
func natAnswers(a []uint32, b []uint32) [][]uint32 {
	q, r, _ := impl.NatDivMod(a, b)
	return [][]uint32{impl.NatMul(a, b), q, r, impl.NatGcd(a, b)}
}

func TestP1ArgumentsStayAndAnswersAreNew(t *testing.T) {
	for _, a := range edgeLists() {
		for _, b := range edgeLists() {
			first, second := guarded(a), guarded(b)
			answers := natAnswers(first, second)
			for i := range answers {
				others := make([][]uint32, len(answers))
				for j := range answers {
					others[j] = slices.Clone(answers[j])
				}
				overwrite(answers[i])
				for j := range answers {
					if j != i && !slices.Equal(answers[j], others[j]) {
						t.Fatalf("%v and %v: answers %d and %d share memory", a, b, i, j)
					}
				}
			}
			if spoiled(first, a) || spoiled(second, b) {
				t.Fatalf("%v and %v: an argument was changed, or an answer shares its memory", a, b)
			}
		}
	}
}

func TestP1OneListAsBothArguments(t *testing.T) {
	for _, a := range edgeLists() {
		list := guarded(a)
		value := bigOf(a)
		if got := impl.NatMul(list, list); !slices.Equal(got, limbsOf(new(big.Int).Mul(value, value))) {
			t.Errorf("square of %v: %v", a, got)
		}
		if got := impl.NatGcd(list, list); !slices.Equal(got, limbsOf(value)) {
			t.Errorf("gcd of %v with itself: %v", a, got)
		}
		q, r, ok := impl.NatDivMod(list, list)
		if ok != (value.Sign() != 0) || len(r) != 0 || ok && !slices.Equal(q, []uint32{1}) {
			t.Errorf("%v by itself: %v %v %v", a, q, r, ok)
		}
		if spoiled(list, a) {
			t.Errorf("%v was changed", a)
		}
	}
}
