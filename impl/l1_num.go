package impl

import (
	"cmp"
	"math/bits"
	"strconv"
	"strings"
)

// MaxDigits is the greatest number of digits of one run that RatParse reads.
const MaxDigits = 400

// The codes of RatParse.
const (
	numberRead        = 0
	numberIllFormed   = 1
	numberTooLong     = 2
	numberZeroDivisor = 3
)

const limbBits = 32
const limbMax = 1<<limbBits - 1

// Decimal texts are read and written in chunks: the greatest power of ten that fits one limb.
const chunkDigits = 9
const chunkBase = 1000000000

// Rat is a rational number: Num/Den, negative when Neg is true.
type Rat struct {
	Neg bool
	Num []uint32
	Den []uint32
}

// nat is a natural at work: limbs, the least first. Between two calls of its methods it is plain.
type nat []uint32

// readOnly shares the memory of limbs: the methods that write in place are not for it.
func readOnly(limbs []uint32) nat {
	n := nat(limbs)
	n.trim()
	return n
}

// ownCopy may be worked on in place: nobody else holds its memory.
func ownCopy(limbs []uint32) nat {
	return append(nat(nil), readOnly(limbs)...)
}

func (n *nat) trim() {
	size := len(*n)
	for size > 0 && (*n)[size-1] == 0 {
		size--
	}
	*n = (*n)[:size]
}

func (n *nat) isZero() bool {
	return len(*n) == 0
}

func (n *nat) isOne() bool {
	return len(*n) == 1 && (*n)[0] == 1
}

func (n *nat) compare(m nat) int {
	if len(*n) != len(m) {
		return cmp.Compare(len(*n), len(m))
	}
	for i := len(m) - 1; i >= 0; i-- {
		if (*n)[i] != m[i] {
			return cmp.Compare((*n)[i], m[i])
		}
	}
	return 0
}

// add works in place.
func (n *nat) add(m nat) {
	for len(*n) < len(m) {
		*n = append(*n, 0)
	}
	carry := uint64(0)
	for i, limb := range *n {
		sum := uint64(limb) + carry
		if i < len(m) {
			sum += uint64(m[i])
		}
		(*n)[i] = uint32(sum)
		carry = sum >> limbBits
	}
	if carry != 0 {
		*n = append(*n, uint32(carry))
	}
}

// subtract works in place; m is at most n.
func (n *nat) subtract(m nat) {
	borrow := uint64(0)
	for i, limb := range *n {
		difference := uint64(limb) - borrow
		if i < len(m) {
			difference -= uint64(m[i])
		}
		(*n)[i] = uint32(difference)
		// A difference below zero has wrapped round, so its top bit is set.
		borrow = difference >> 63
	}
	n.trim()
}

// multiply puts n on new memory, so n may be readOnly.
func (n *nat) multiply(m nat) {
	product := make(nat, len(*n)+len(m))
	for i, limb := range *n {
		carry := uint64(0)
		for j, other := range m {
			// The greatest limbs and carry make exactly 2^64 - 1.
			sum := uint64(limb)*uint64(other) + uint64(product[i+j]) + carry
			product[i+j] = uint32(sum)
			carry = sum >> limbBits
		}
		product[i+len(m)] = uint32(carry)
	}
	product.trim()
	*n = product
}

// multiplyAdd works in place: n becomes n*factor + extra.
func (n *nat) multiplyAdd(factor uint32, extra uint32) {
	carry := uint64(extra)
	for i, limb := range *n {
		sum := uint64(limb)*uint64(factor) + carry
		(*n)[i] = uint32(sum)
		carry = sum >> limbBits
	}
	if carry != 0 {
		*n = append(*n, uint32(carry))
	}
}

// shiftLeft puts n on new memory, so n may be readOnly.
func (n *nat) shiftLeft(count int) {
	whole, part := count/limbBits, count%limbBits
	shifted := make(nat, len(*n)+whole+1)
	for i, limb := range *n {
		wide := uint64(limb) << part
		shifted[i+whole] |= uint32(wide)
		shifted[i+whole+1] = uint32(wide >> limbBits)
	}
	shifted.trim()
	*n = shifted
}

// shiftRight works in place.
func (n *nat) shiftRight(count int) {
	whole, part := count/limbBits, count%limbBits
	kept := (*n)[min(whole, len(*n)):]
	for i, limb := range kept {
		wide := uint64(limb)
		if i+1 < len(kept) {
			wide |= uint64(kept[i+1]) << limbBits
		}
		(*n)[i] = uint32(wide >> part)
	}
	*n = (*n)[:len(kept)]
	n.trim()
}

// divideByLimb works in place: n becomes the quotient, the remainder is the answer. d is not 0.
func (n *nat) divideByLimb(d uint32) uint32 {
	rest := uint64(0)
	for i := len(*n) - 1; i >= 0; i-- {
		part := rest<<limbBits | uint64((*n)[i])
		(*n)[i] = uint32(part / uint64(d))
		rest = part % uint64(d)
	}
	n.trim()
	return uint32(rest)
}

// divideBy works in place: n becomes the remainder, the quotient is the answer. d is not zero.
func (n *nat) divideBy(d nat) nat {
	if n.compare(d) < 0 {
		return nil
	}
	if len(d) == 1 {
		quotient := *n
		rest := quotient.divideByLimb(d[0])
		*n = nat{rest}
		n.trim()
		return quotient
	}
	return n.divideByLong(d)
}

// divideByLong is divideBy for a d of two limbs or more that is at most n. With the top bit of d
// set, a digit guessed from the leading limbs is at most one too great.
func (n *nat) divideByLong(d nat) nat {
	shift := bits.LeadingZeros32(d[len(d)-1])
	d.shiftLeft(shift)
	n.shiftLeft(shift)
	*n = append(*n, 0)
	quotient := make(nat, len(*n)-len(d))
	for at := len(quotient) - 1; at >= 0; at-- {
		digit := n.guessDigit(d, at)
		if n.takeTimes(d, digit, at) {
			digit--
			n.giveBack(d, at)
		}
		quotient[at] = digit
	}
	quotient.trim()
	n.shiftRight(shift)
	return quotient
}

// guessDigit guesses the quotient digit at a place from three limbs of n and two of d.
func (n *nat) guessDigit(d nat, at int) uint32 {
	end := at + len(d)
	first, second := uint64(d[len(d)-1]), uint64(d[len(d)-2])
	lead := uint64((*n)[end])<<limbBits | uint64((*n)[end-1])
	guess, rest := lead/first, lead%first
	for guess > limbMax || guess*second > rest<<limbBits|uint64((*n)[end-2]) {
		guess--
		rest += first
		// Beyond one limb the rest outweighs any product of two limbs, and shifting would lose it.
		if rest > limbMax {
			break
		}
	}
	return uint32(guess)
}

// takeTimes takes digit*d from n at a place and says whether n had too little, and so wrapped round.
func (n *nat) takeTimes(d nat, digit uint32, at int) bool {
	owed := uint64(0)
	for i, limb := range d {
		product := uint64(digit)*uint64(limb) + owed
		difference := uint64((*n)[at+i]) - product&limbMax
		(*n)[at+i] = uint32(difference)
		owed = product>>limbBits + difference>>63
	}
	difference := uint64((*n)[at+len(d)]) - owed
	(*n)[at+len(d)] = uint32(difference)
	return difference>>63 != 0
}

// giveBack adds d to n at a place. The last carry cancels the wrap that takeTimes told of.
func (n *nat) giveBack(d nat, at int) {
	carry := uint64(0)
	for i, limb := range d {
		sum := uint64((*n)[at+i]) + uint64(limb) + carry
		(*n)[at+i] = uint32(sum)
		carry = sum >> limbBits
	}
	(*n)[at+len(d)] += uint32(carry)
}

// isShort says whether n fits 64 bits.
func (n *nat) isShort() bool {
	return len(*n) <= 2
}

// short is the value of an n that fits 64 bits.
func (n *nat) short() uint64 {
	value := uint64(0)
	for i, limb := range *n {
		value |= uint64(limb) << (i * limbBits)
	}
	return value
}

func natOfShort(value uint64) nat {
	n := nat{uint32(value), uint32(value >> limbBits)}
	n.trim()
	return n
}

// becomeGcd works in place: n becomes the greatest common divisor of n and m, and m is used up.
func (n *nat) becomeGcd(m *nat) {
	if n.compare(*m) < 0 {
		*n, *m = *m, *n
	}
	for !m.isShort() {
		n.leapTo(m, leapOf(*n, *m))
	}
	if !n.isShort() && !m.isZero() {
		n.leapTo(m, leap{})
	}
	if n.isShort() {
		*n = natOfShort(shortGcd(n.short(), m.short()))
	}
}

// leap stands for several steps of Euclid's algorithm at once: for the numbers n >= m, the difference of
// n*ofN[0] and m*ofM[0] is the greater one behind the steps, that of n*ofN[1] and m*ofM[1] the smaller one.
// After an odd number of steps it is m*ofM[0] and n*ofN[1] from which the other is taken away.
type leap struct {
	ofN [2]uint64
	ofM [2]uint64
	odd bool
}

// leapOf finds by their leading bits alone how many steps are the same for all n and m that begin with
// these bits, by Collins' condition; no factor outgrows a limb. m is not short, and at most n.
func leapOf(n nat, m nat) leap {
	size := len(n)
	shift := bits.LeadingZeros32(n[size-1])
	great, small := n.leading(size, shift), m.leading(size, shift)
	// This is one step before the beginning, so that n and m themselves come first.
	l := leap{ofN: [2]uint64{0, 1}, ofM: [2]uint64{0, 0}, odd: true}
	nextN, nextM := uint64(0), uint64(1)
	for small >= nextM && great-small >= l.ofM[1]+nextM {
		quotient := great / small
		great, small = small, great%small
		l.ofN[0], l.ofN[1], nextN = l.ofN[1], nextN, l.ofN[1]+quotient*nextN
		l.ofM[0], l.ofM[1], nextM = l.ofM[1], nextM, l.ofM[1]+quotient*nextM
		l.odd = !l.odd
	}
	return l
}

// leading is the 64 bits of n that stand at the top of a number of size limbs when shift of its bits are zero.
func (n *nat) leading(size int, shift int) uint64 {
	high := uint64(n.limb(size-1))<<limbBits | uint64(n.limb(size-2))
	low := uint64(n.limb(size-3)) << shift
	return high<<shift | low>>limbBits
}

// limb is 0 behind the last one of n.
func (n *nat) limb(at int) uint32 {
	if at >= len(*n) {
		return 0
	}
	return (*n)[at]
}

// leapTo works in place: it makes the steps of l for n >= m, or one step when l has none.
func (n *nat) leapTo(m *nat, l leap) {
	if l.ofM[0] == 0 {
		n.divideBy(*m)
		*n, *m = *m, *n
		return
	}
	for len(*m) < len(*n) {
		*m = append(*m, 0)
	}
	great, small := balance{}, balance{}
	for i, limb := range *n {
		n0, m0 := uint64(limb)*l.ofN[0], uint64((*m)[i])*l.ofM[0]
		n1, m1 := uint64(limb)*l.ofN[1], uint64((*m)[i])*l.ofM[1]
		if l.odd {
			(*n)[i], (*m)[i] = great.take(m0, n0), small.take(n1, m1)
		} else {
			(*n)[i], (*m)[i] = great.take(n0, m0), small.take(m1, n1)
		}
	}
	n.trim()
	m.trim()
}

// balance is a difference of two sums at work, limb by limb: what is carried in each, and what is owed.
type balance struct {
	plus  uint64
	minus uint64
	owed  uint64
}

// take gives the next limb of the difference. Products of two limbs leave room for what is carried.
func (b *balance) take(plus uint64, minus uint64) uint32 {
	plus += b.plus
	minus += b.minus
	difference := plus&limbMax - minus&limbMax - b.owed
	b.plus, b.minus, b.owed = plus>>limbBits, minus>>limbBits, difference>>63
	return uint32(difference)
}

func shortGcd(a uint64, b uint64) uint64 {
	for b != 0 {
		a, b = b, a%b
	}
	return a
}

// gcdOf leaves both arguments as they are, so they may be readOnly.
func gcdOf(a nat, b nat) nat {
	if a.isOne() || b.isOne() {
		return nat{1}
	}
	if a.isShort() && b.isShort() {
		return natOfShort(shortGcd(a.short(), b.short()))
	}
	n, m := ownCopy(a), ownCopy(b)
	n.becomeGcd(&m)
	return n
}

// without is n divided by one of its divisors. It may share the limbs of n.
func (n *nat) without(divisor nat) nat {
	if divisor.isOne() {
		return *n
	}
	rest := ownCopy(*n)
	return rest.divideBy(divisor)
}

// NatMul is the product of two naturals.
func NatMul(a []uint32, b []uint32) []uint32 {
	n := readOnly(a)
	n.multiply(readOnly(b))
	return n
}

// NatDivMod is the quotient and the remainder of a by b.
func NatDivMod(a []uint32, b []uint32) ([]uint32, []uint32, bool) {
	divisor := readOnly(b)
	if divisor.isZero() {
		return nil, nil, false
	}
	rest := ownCopy(a)
	quotient := rest.divideBy(divisor)
	return quotient, rest, true
}

// NatGcd is the greatest common divisor of two naturals.
func NatGcd(a []uint32, b []uint32) []uint32 {
	return gcdOf(readOnly(a), readOnly(b))
}

// fraction is a rational at work: not always in lowest terms, and zero may have a sign. All that top and
// bottom have in common divides shared; a shared of zero, which everything divides, tells nothing.
type fraction struct {
	neg    bool
	top    nat
	bottom nat
	shared nat
}

// fractionOf shares the limbs of r: what is worked out of it must be on new memory.
func fractionOf(r Rat) fraction {
	return fraction{neg: r.Neg, top: readOnly(r.Num), bottom: readOnly(r.Den)}
}

// normalise lays f down as the one valid Rat of its value. f has limbs of its own, and bottom is not zero.
func (f *fraction) normalise() Rat {
	common := f.common()
	if !common.isOne() {
		f.top = f.top.divideBy(common)
		f.bottom = f.bottom.divideBy(common)
	}
	return Rat{Neg: f.neg && !f.top.isZero(), Num: f.top, Den: f.bottom}
}

// common is the greatest common divisor of top and bottom. Long numbers most often share little, and
// then to ask for it by way of shared is far shorter.
func (f *fraction) common() nat {
	if f.bottom.isOne() || f.shared.isOne() {
		return nat{1}
	}
	return gcdOf(gcdOf(f.shared, f.top), f.bottom)
}

// add needs f and g in lowest terms: then the parts of the sum have nothing in common but what the bottoms share.
func (f *fraction) add(g fraction) {
	shared := gcdOf(f.bottom, g.bottom)
	mine, others := f.bottom.without(shared), g.bottom.without(shared)
	other := g.top
	other.multiply(mine)
	f.top.multiply(others)
	f.bottom.multiply(others)
	f.addTop(g.neg, other)
	f.shared = shared
}

// addTop adds to the top alone; both it and other have limbs of their own.
func (f *fraction) addTop(neg bool, other nat) {
	if f.neg == neg {
		f.top.add(other)
		return
	}
	if f.top.compare(other) < 0 {
		f.top, other = other, f.top
		f.neg = neg
	}
	f.top.subtract(other)
}

// multiply needs f and g in lowest terms: then only the top of one has anything in common with the bottom of the other.
func (f *fraction) multiply(g fraction) {
	f.shared = gcdOf(f.top, g.bottom)
	f.shared.multiply(gcdOf(g.top, f.bottom))
	f.neg = f.neg != g.neg
	f.top.multiply(g.top)
	f.bottom.multiply(g.bottom)
}

// divide needs a g that is not zero.
func (f *fraction) divide(g fraction) {
	f.multiply(fraction{neg: g.neg, top: g.bottom, bottom: g.top})
}

func (f *fraction) compare(g fraction) int {
	if f.neg != g.neg {
		if f.neg {
			return -1
		}
		return 1
	}
	left, right := f.top, g.top
	left.multiply(g.bottom)
	right.multiply(f.bottom)
	if f.neg {
		return right.compare(left)
	}
	return left.compare(right)
}

func zeroRat() Rat {
	return Rat{Den: []uint32{1}}
}

func oneRat() Rat {
	return Rat{Num: []uint32{1}, Den: []uint32{1}}
}

func isZero(r Rat) bool {
	return len(r.Num) == 0
}

func isPositive(r Rat) bool {
	return !r.Neg && !isZero(r)
}

// oppositeOf shares the limbs of r.
func oppositeOf(r Rat) Rat {
	r.Neg = !r.Neg && !isZero(r)
	return r
}

func zeroRats(count int) []Rat {
	zeros := make([]Rat, count)
	for i := range zeros {
		zeros[i] = zeroRat()
	}
	return zeros
}

// ownRats is a copy of a list that shares no limb with it.
func ownRats(list []Rat) []Rat {
	own := make([]Rat, len(list))
	for i, r := range list {
		own[i] = Rat{Neg: r.Neg, Num: ownCopy(r.Num), Den: ownCopy(r.Den)}
	}
	return own
}

// sumOf and its like below are for Rats that are known to be valid. Their answers are on new memory.
func sumOf(a Rat, b Rat) Rat {
	f := fractionOf(a)
	f.add(fractionOf(b))
	return f.normalise()
}

func differenceOf(a Rat, b Rat) Rat {
	f, g := fractionOf(a), fractionOf(b)
	g.neg = !g.neg
	f.add(g)
	return f.normalise()
}

func productOf(a Rat, b Rat) Rat {
	f := fractionOf(a)
	f.multiply(fractionOf(b))
	return f.normalise()
}

// plusProduct is total plus a times b.
func plusProduct(total Rat, a Rat, b Rat) Rat {
	product := productOf(a, b)
	// Most sums of products begin at zero.
	if isZero(total) {
		return product
	}
	return sumOf(total, product)
}

// quotientOf needs a b that is not zero.
func quotientOf(a Rat, b Rat) Rat {
	f := fractionOf(a)
	f.divide(fractionOf(b))
	return f.normalise()
}

func orderOf(a Rat, b Rat) int {
	f := fractionOf(a)
	return f.compare(fractionOf(b))
}

func isPlain(limbs []uint32) bool {
	return len(limbs) == 0 || limbs[len(limbs)-1] != 0
}

// RatOk says whether r is a valid Rat.
func RatOk(r Rat) bool {
	if !isPlain(r.Num) || !isPlain(r.Den) || len(r.Den) == 0 {
		return false
	}
	if r.Neg && len(r.Num) == 0 {
		return false
	}
	common := gcdOf(r.Num, r.Den)
	return common.isOne()
}

// RatAdd is the sum of two rationals.
func RatAdd(a Rat, b Rat) Rat {
	if !RatOk(a) || !RatOk(b) {
		return zeroRat()
	}
	return sumOf(a, b)
}

// RatMul is the product of two rationals.
func RatMul(a Rat, b Rat) Rat {
	if !RatOk(a) || !RatOk(b) {
		return zeroRat()
	}
	return productOf(a, b)
}

// RatDiv is a divided by b.
func RatDiv(a Rat, b Rat) (Rat, bool) {
	if !RatOk(a) || !RatOk(b) || isZero(b) {
		return zeroRat(), false
	}
	return quotientOf(a, b), true
}

// RatCmp compares two rationals.
func RatCmp(a Rat, b Rat) int {
	if !RatOk(a) || !RatOk(b) {
		return 2
	}
	return orderOf(a, b)
}

func isDigits(s string) bool {
	for i := range len(s) {
		if s[i] < '0' || s[i] > '9' {
			return false
		}
	}
	return len(s) > 0
}

// natOfDigits reads a run of digits.
func natOfDigits(digits string) nat {
	n := nat{}
	for len(digits) > 0 {
		// The first chunk is the odd one, so that every later one is full.
		size := (len(digits)-1)%chunkDigits + 1
		chunk := uint32(0)
		for i := range size {
			chunk = chunk*10 + uint32(digits[i]-'0')
		}
		n.multiplyAdd(chunkBase, chunk)
		digits = digits[size:]
	}
	return n
}

// appendDecimal uses n up.
func (n *nat) appendDecimal(out []byte) []byte {
	if n.isZero() {
		return append(out, '0')
	}
	chunks := []uint32{}
	for !n.isZero() {
		chunks = append(chunks, n.divideByLimb(chunkBase))
	}
	last := len(chunks) - 1
	out = strconv.AppendUint(out, uint64(chunks[last]), 10)
	for i := last - 1; i >= 0; i-- {
		text := strconv.FormatUint(uint64(chunks[i]), 10)
		out = append(out, strings.Repeat("0", chunkDigits-len(text))...)
		out = append(out, text...)
	}
	return out
}

// RatParse reads the text of a number.
func RatParse(s string) (Rat, int) {
	runs, neg := strings.CutPrefix(s, "-")
	top, bottom, divided := strings.Cut(runs, "/")
	if !divided {
		bottom = "1"
	}
	if !isDigits(top) || !isDigits(bottom) {
		return zeroRat(), numberIllFormed
	}
	if len(top) > MaxDigits || len(bottom) > MaxDigits {
		return zeroRat(), numberTooLong
	}
	f := fraction{neg: neg, top: natOfDigits(top), bottom: natOfDigits(bottom)}
	if f.bottom.isZero() {
		return zeroRat(), numberZeroDivisor
	}
	return f.normalise(), numberRead
}

// textOf writes a number that is known to be valid.
func textOf(r Rat) string {
	out := []byte{}
	if r.Neg {
		out = append(out, '-')
	}
	top, bottom := ownCopy(r.Num), ownCopy(r.Den)
	out = top.appendDecimal(out)
	if !bottom.isOne() {
		out = append(out, '/')
		out = bottom.appendDecimal(out)
	}
	return string(out)
}

// RatText writes a number.
func RatText(r Rat) string {
	if !RatOk(r) {
		return ""
	}
	return textOf(r)
}
