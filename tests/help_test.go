package tests

import (
	"math/big"
	"slices"
	"testing"

	"loop.example/s0015/impl"
)

// spare is what lies behind an argument in its own memory: a function that appends to the argument in place spoils it.
const spare = 0xdeadbeef

// guarded is a copy of limbs with spare memory behind it.
func guarded(limbs []uint32) []uint32 {
	held := append(slices.Clone(limbs), spare, spare, spare)
	return held[:len(limbs)]
}

// spoiled says whether a guarded list or what lies behind it is no longer as it was.
func spoiled(list []uint32, before []uint32) bool {
	want := append(slices.Clone(before), spare, spare, spare)
	return !slices.Equal(list[:len(list)+3], want)
}

// overwrite fills all the memory that an answer holds, behind its end too.
func overwrite(list []uint32) {
	held := list[:cap(list)]
	for i := range held {
		held[i] = 0xabababab
	}
}

func isPlain(limbs []uint32) bool {
	return len(limbs) == 0 || limbs[len(limbs)-1] != 0
}

// bigOf is the number that a list stands for, plain or not.
func bigOf(limbs []uint32) *big.Int {
	value := new(big.Int)
	for i := len(limbs) - 1; i >= 0; i-- {
		value.Lsh(value, 32)
		value.Or(value, new(big.Int).SetUint64(uint64(limbs[i])))
	}
	return value
}

// limbsOf is the plain list of a number that is not negative.
func limbsOf(value *big.Int) []uint32 {
	limbs := []uint32{}
	mask := new(big.Int).SetUint64(0xffffffff)
	for rest := new(big.Int).Set(value); rest.Sign() > 0; rest.Rsh(rest, 32) {
		limbs = append(limbs, uint32(new(big.Int).And(rest, mask).Uint64()))
	}
	return limbs
}

// ratOf is the valid Rat of a number.
func ratOf(value *big.Rat) impl.Rat {
	return impl.Rat{
		Neg: value.Sign() < 0,
		Num: limbsOf(new(big.Int).Abs(value.Num())),
		Den: limbsOf(value.Denom()),
	}
}

// rat is the valid Rat of n/d.
func rat(n int64, d int64) impl.Rat {
	return ratOf(big.NewRat(n, d))
}

// valueOf is the number that a Rat with a divisor that is not zero stands for.
func valueOf(r impl.Rat) *big.Rat {
	value := new(big.Rat).SetFrac(bigOf(r.Num), bigOf(r.Den))
	if r.Neg {
		value.Neg(value)
	}
	return value
}

func sameRat(a impl.Rat, b impl.Rat) bool {
	return a.Neg == b.Neg && slices.Equal(a.Num, b.Num) && slices.Equal(a.Den, b.Den)
}

func copyRat(r impl.Rat) impl.Rat {
	return impl.Rat{Neg: r.Neg, Num: guarded(r.Num), Den: guarded(r.Den)}
}

func wantRat(t *testing.T, what string, got impl.Rat, want impl.Rat) {
	t.Helper()
	if !sameRat(got, want) {
		t.Errorf("%s: got %v, want %v", what, got, want)
	}
}

// draws is a fixed row of numbers without any pattern that matters here.
type draws struct {
	state uint64
}

func newDraws(seed uint64) *draws {
	return &draws{state: seed*0x9e3779b97f4a7c15 + 1}
}

func (d *draws) next() uint64 {
	d.state ^= d.state << 13
	d.state ^= d.state >> 7
	d.state ^= d.state << 17
	return d.state * 0x2545f4914f6cdd1d
}

func (d *draws) below(n int) int {
	return int((d.next() >> 33) % uint64(n))
}

// limb is often one of the limbs at which carries and guessed digits go wrong.
func (d *draws) limb() uint32 {
	edges := []uint32{0, 0, 1, 2, 0x7fffffff, 0x80000000, 0x80000001, 0xfffffffe, 0xffffffff, 0xffffffff}
	if d.below(2) == 0 {
		return edges[d.below(len(edges))]
	}
	return uint32(d.next() >> 32)
}

// list has up to most limbs, and may end in limbs that are 0.
func (d *draws) list(most int) []uint32 {
	limbs := make([]uint32, d.below(most+1))
	for i := range limbs {
		limbs[i] = d.limb()
	}
	return limbs
}

// rat is a valid Rat with up to most limbs above and below.
func (d *draws) rat(most int) impl.Rat {
	top, bottom := bigOf(d.list(most)), bigOf(d.list(most))
	if bottom.Sign() == 0 {
		bottom.SetInt64(1)
	}
	if d.below(2) == 0 {
		top.Neg(top)
	}
	return ratOf(new(big.Rat).SetFrac(top, bottom))
}
