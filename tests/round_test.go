package tests

import (
	"slices"
	"testing"

	"loop.example/s0015/impl"
)

// beside is a net over one element with a neuron of its own beside 2x + 1, which stays and is not open in -1 .. 1.
func beside(w string, b string, column string) impl.Net {
	return netOf(affine(2, 1, w+" 2", b+" 1"), affine(1, 2, column+" 5", "7"))
}

// alone is what is left of it when the neuron is gone.
func alone(constant string) impl.Net {
	return netOf(affine(1, 1, "2", "1"), affine(1, 1, "5", constant))
}

func TestP12NeuronsThatAreNeverPositive(t *testing.T) {
	wantRound(t, "Hi is 0", beside("1", "-1", "3"), "-1", "1", alone("7"), true)
	wantRound(t, "Hi is below 0", beside("1", "-3/2", "3"), "-1", "1", alone("7"), true)
	wantStill(t, "Hi is just above 0", beside("1", "-999999999999/1000000000000", "3"), "-1", "1")
	wantRound(t, "Hi is 0 by the box", beside("1", "0", "3"), "-1", "0", alone("7"), true)
	wantStill(t, "Hi is just above 0 by the box", beside("1", "0", "3"), "-1", "1/1000000000000")
	wantRound(t, "a falling neuron", beside("-1", "0", "3"), "0", "0", netOf(affine(1, 1, "10", "12")), true)
}

func TestP12FixedNeurons(t *testing.T) {
	wantRound(t, "above 0", beside("0", "3", "2"), "-1", "1", alone("13"), true)
	wantRound(t, "above 0, times a fraction below 0", beside("0", "3/2", "-1/3"), "-1", "1", alone("13/2"), true)
	wantRound(t, "at 0", beside("0", "0", "2"), "-1", "1", alone("7"), true)
	wantRound(t, "below 0", beside("0", "-3", "2"), "-1", "1", alone("7"), true)
	wantRound(t, "above 0 and unused", beside("0", "3", "0"), "-1", "1", alone("7"), true)
	// Not of zeros, so its constant stays its own.
	wantRound(t, "unused, with a constant", beside("1", "3", "0"), "-1", "1", alone("7"), true)
	wantRound(t, "never positive, with a constant", beside("-4", "-5", "2"), "-1", "1", alone("7"), true)
	// No column at all is a row of zeros too.
	wantRound(t, "a map without columns", netOf(affine(2, 0, "", "3 -3"), affine(1, 2, "2 5", "7")), "", "",
		netOf(affine(1, 0, "", "13")), true)
}

func TestP12UnusedNeurons(t *testing.T) {
	wantRound(t, "a column of zeros", beside("4", "1", "0"), "-1", "1", alone("7"), true)
	n := netOf(affine(2, 1, "4 2", "1 1"), affine(3, 2, "0 5 0 5 0 0", "1 2 3"))
	wantRound(t, "a column of zeros in several rows", n, "-1", "1", netOf(affine(1, 1, "2", "1"), affine(3, 1, "5 5 0", "1 2 3")), true)
	used := netOf(affine(2, 1, "4 2", "1 1"), affine(3, 2, "0 5 0 5 1/7 0", "1 2 3"))
	wantStill(t, "one weight is not 0", used, "-1", "1")
}

func TestP12ANextMapWithoutRows(t *testing.T) {
	wantRound(t, "at the end", netOf(affine(2, 1, "1 -1", "0 5"), flat(0, 2)), "-1", "1", netOf(flat(0, 1)), true)
	// The first map has no cells left, so joining it to the last takes more.
	n := netOf(affine(2, 1, "1 -1", "0 5"), flat(0, 2), affine(2, 0, "", "-1 1"))
	wantRound(t, "in the middle", n, "-1", "1", netOf(flat(0, 1), affine(2, 0, "", "-1 1")), true)
}

func TestP12SeveralGoneNeuronsOfALayer(t *testing.T) {
	n := netOf(affine(5, 1, "0 2 0 1 0", "3 1 5 -9 -2"), affine(2, 5, "2 5 1/2 1 7 -1 5 -2 1 7", "7 0"))
	want := netOf(affine(1, 1, "2", "1"), affine(2, 1, "5 5", "31/2 -13"))
	wantRound(t, "constants of two, and two without", n, "-1", "1", want, true)
}

func TestP12GoneNeuronsOfNeighbouringLayers(t *testing.T) {
	n := netOf(
		affine(2, 1, "0 2", "3 1"),
		affine(3, 2, "2 5 0 0 1 -5", "-20 4 -1"),
		affine(2, 3, "1 10 1 3 1/2 2", "7 8"),
	)
	// Of layer 1 the first neuron has Hi 1, the second is fixed, and the third has Hi 2.
	want := netOf(affine(1, 1, "2", "1"), affine(2, 1, "5 -5", "-14 2"), affine(2, 2, "1 1 3 2", "47 10"))
	wantRound(t, "both layers at once", n, "-1", "1", want, true)
	wantStill(t, "the round behind it", want, "-1", "1")
}

// A neuron that only this round makes fixed or unused is gone in the next one.
func TestP12JudgedByTheGivenNet(t *testing.T) {
	n := netOf(
		affine(2, 1, "0 2", "3 1"),
		affine(2, 2, "2 0 0 5", "1 -1"),
		affine(1, 2, "10 1", "7"),
	)
	first := netOf(affine(1, 1, "2", "1"), affine(2, 1, "0 5", "7 -1"), affine(1, 2, "10 1", "7"))
	second := netOf(affine(1, 1, "2", "1"), affine(1, 1, "5", "-1"), affine(1, 1, "1", "77"))
	wantRound(t, "only layer 0", n, "-1", "1", first, true)
	wantRound(t, "then layer 1", first, "-1", "1", second, true)
	wantStill(t, "then nothing", second, "-1", "1")
	// Backwards: the second layer's neuron is unused, so that of the first is in the next round.
	n = netOf(affine(2, 1, "1 2", "0 1"), affine(2, 2, "1 0 0 5", "0 -1"), affine(1, 2, "0 1", "7"))
	first = netOf(affine(2, 1, "1 2", "0 1"), affine(1, 2, "0 5", "-1"), affine(1, 1, "1", "7"))
	second = netOf(affine(1, 1, "2", "1"), affine(1, 1, "5", "-1"), affine(1, 1, "1", "7"))
	wantRound(t, "only layer 1", n, "-1", "1", first, true)
	wantRound(t, "then layer 0", first, "-1", "1", second, true)
}

func TestP12LayersOfWhichNothingIsLeft(t *testing.T) {
	n := netOf(affine(1, 1, "1", "-5"), affine(2, 1, "1 2", "1 2"))
	wantRound(t, "joining takes more cells", n, "0", "1", netOf(flat(0, 1), affine(2, 0, "", "1 2")), true)
	wantStill(t, "once more", netOf(flat(0, 1), affine(2, 0, "", "1 2")), "0", "1")
	n = netOf(affine(1, 0, "", "-5"), affine(2, 1, "1 2", "1 2"))
	wantRound(t, "without columns joining takes no more", n, "", "", netOf(affine(2, 0, "", "1 2")), true)
	n = netOf(affine(1, 1, "1", "-5"), affine(2, 1, "1 2", "1 2"), affine(1, 2, "1 -1", "1/2"))
	// Layer 1 is fixed only when layer 0 is gone, so it is there still, and open.
	want := netOf(flat(0, 1), affine(1, 0, "", "-1/2"))
	wantRound(t, "in front of an open layer", n, "0", "1", want, true)
	fixed := netOf(affine(2, 1, "0 0", "3 4"), affine(1, 2, "1 -1", "1/2"))
	wantRound(t, "all of it fixed", fixed, "0", "1", netOf(flat(0, 1), affine(1, 0, "", "-1/2")), true)
}

func TestP12OpenLayers(t *testing.T) {
	one := affine(1, 1, "1", "0")
	n := netOf(one, affine(1, 1, "-3", "1/2"))
	wantRound(t, "Lo is 0", n, "0", "1", netOf(affine(1, 1, "-3", "1/2")), true)
	wantRound(t, "Lo is above 0", n, "1/2", "1", netOf(affine(1, 1, "-3", "1/2")), true)
	wantStill(t, "Lo is just below 0", n, "-1/1000000000000", "1")
	two := netOf(affine(2, 1, "1 2", "0 1"), affine(1, 2, "3 5", "7"))
	wantRound(t, "two neurons", two, "0", "1", netOf(affine(1, 1, "13", "12")), true)
	wantStill(t, "one of two is not", two, "-1/4", "1")
	// Those that are gone have no say.
	three := netOf(affine(3, 1, "1 -1 4", "0 0 -3"), affine(1, 3, "3 5 0", "7"))
	wantRound(t, "the others are gone", three, "0", "1", netOf(affine(1, 1, "3", "7")), true)
	// A fraction, to see that weights and constants are joined exactly.
	mixed := netOf(affine(2, 2, "1/2 1/3 1/5 0", "1 1/7"), affine(2, 2, "1 -1 1/2 7", "0 -1/3"))
	wantRound(t, "fractions", mixed, "0 0", "1 1", netOf(affine(2, 2, "3/10 1/3 33/20 1/6", "6/7 7/6")), true)
}

// Here the joined map has r*(c+1) cells, and the two maps have h*(c+1) and r*(h+1).
func TestP12CellsOfJoinedMaps(t *testing.T) {
	with := func(c int, h int, r int) impl.Net {
		return netOf(
			impl.Affine{Rows: h, Cols: c, W: repeated(rat(1, 1), h*c), B: repeated(rat(1, 1), h)},
			impl.Affine{Rows: r, Cols: h, W: repeated(rat(2, 1), r*h), B: repeated(rat(-1, 1), r)},
		)
	}
	cases := []struct {
		c, h, r int
		joins   bool
	}{
		{3, 1, 2, true}, {2, 1, 3, true}, {2, 1, 2, true}, {4, 1, 2, false}, {3, 1, 3, false}, {1, 1, 50, true}, {50, 1, 1, true}, {10, 10, 10, true},
		{9, 2, 4, false}, {6, 2, 4, false}, {5, 2, 4, true}, {0, 1, 5, true}, {5, 3, 0, true},
	}
	for _, s := range cases {
		n := with(s.c, s.h, s.r)
		lo, hi := repeated(rat(0, 1), s.c), repeated(rat(1, 1), s.c)
		got, changed := impl.OptRound(n, lo, hi)
		want, wantChanged := roundByWords(n, lo, hi, &tally{})
		if changed != wantChanged || !sameNet(got, want) {
			t.Errorf("%d to %d to %d: got %s, %v", s.c, s.h, s.r, impl.NetText(got), changed)
		}
		if (len(got.Maps) == 1) != s.joins {
			t.Errorf("%d to %d to %d: %d maps", s.c, s.h, s.r, len(got.Maps))
		}
		if s.joins && s.c > 0 && s.r > 0 {
			sum := impl.Affine{Rows: s.r, Cols: s.c, W: repeated(rat(int64(2*s.h), 1), s.r*s.c), B: repeated(rat(int64(2*s.h-1), 1), s.r)}
			if !sameNet(got, netOf(sum)) {
				t.Errorf("%d to %d to %d: joined to %s", s.c, s.h, s.r, impl.NetText(got))
			}
		}
	}
}

// full has weights and constants that are all 1.
func full(rows int, cols int) impl.Affine {
	return impl.Affine{Rows: rows, Cols: cols, W: repeated(rat(1, 1), rows*cols), B: repeated(rat(1, 1), rows)}
}

func TestP12JoiningGoesOnFromTheHeldMap(t *testing.T) {
	one := affine(1, 1, "1", "1")
	wantRound(t, "three maps", netOf(one, one, one), "0", "1", netOf(affine(1, 1, "1", "3")), true)
	wantRound(t, "many maps", netOf(repeated(affine(1, 1, "2", "1"), 40)...), "0", "0", netOf(affine(1, 1, "1099511627776", "1099511627775")), true)
	// The first two make a map of 2 by 3; with 8 rows the third takes no more cells than it and the third have.
	eight := netOf(full(1, 3), full(2, 1), full(8, 2))
	wantRound(t, "held of 8 cells", eight, "0 0 0", "1 1 1",
		netOf(impl.Affine{Rows: 8, Cols: 3, W: repeated(rat(2, 1), 24), B: repeated(rat(5, 1), 8)}), true)
	nine := netOf(full(1, 3), full(2, 1), full(9, 2))
	wantRound(t, "one row more", nine, "0 0 0", "1 1 1",
		netOf(impl.Affine{Rows: 2, Cols: 3, W: repeated(rat(1, 1), 6), B: nums("2 2")}, full(9, 2)), true)
	// What was not joined is held next.
	behind := netOf(full(1, 9), full(5, 1), full(1, 5), full(1, 1))
	wantRound(t, "joined behind a finished map", behind, "0 0 0 0 0 0 0 0 0", "1 1 1 1 1 1 1 1 1",
		netOf(full(1, 9), affine(1, 1, "5", "7")), true)
}

func TestP12JoiningOnBothSidesOfALayerThatIsNotOpen(t *testing.T) {
	one, down := affine(1, 1, "1", "1"), affine(1, 1, "-1", "5/2")
	n := netOf(one, down, one, one)
	// The layers have 1 .. 2 when x is in 0 .. 1, then 1/2 .. 3/2, so all are open; wider boxes close the second.
	wantRound(t, "all open", n, "0", "1", netOf(affine(1, 1, "-1", "7/2")), true)
	wantRound(t, "the second is not", n, "0", "4", netOf(affine(1, 1, "-1", "3/2"), affine(1, 1, "1", "2")), true)
	wantRound(t, "the first is not", n, "-2", "1", netOf(one, affine(1, 1, "-1", "9/2")), true)
	wantRound(t, "neither is", n, "-2", "4", netOf(one, down, affine(1, 1, "1", "2")), true)
}

func TestP12NothingToDo(t *testing.T) {
	wantStill(t, "one map", netOf(affine(2, 2, "0 0 1 -1", "0 -3")), "-1 -1", "1 1")
	wantStill(t, "one map of zeros", netOf(flat(2, 2)), "-1 -1", "1 1")
	wantStill(t, "one map without rows", netOf(flat(0, 2)), "-1 -1", "1 1")
	wantStill(t, "one map without cells", netOf(flat(0, 0)), "", "")
	wantStill(t, "the carried input", netOf(affine(3, 1, "1 -1 1", "0 0 0"), affine(1, 3, "1 -1 1", "0")), "-1", "1")
	// The first map's columns and the last map's rows are no neurons.
	wantStill(t, "an input without use, a result that never is positive", netOf(affine(2, 2, "1 0 -1 0", "0 0"), affine(2, 2, "-1 -1 0 0", "-3 -4")), "-1 -1", "1 1")
	wantStill(t, "an open layer that is dear to join", netOf(full(1, 9), full(5, 1)), "0 0 0 0 0 0 0 0 0", "1 1 1 1 1 1 1 1 1")
}

func TestP12TheCarriedInputByItsBox(t *testing.T) {
	n := netOf(affine(3, 1, "1 -1 1", "0 0 0"), affine(1, 3, "1 -1 1", "0"))
	wantRound(t, "above 0", n, "1", "2", netOf(affine(1, 1, "2", "0")), true)
	wantRound(t, "from 0", n, "0", "2", netOf(affine(1, 1, "2", "0")), true)
	wantRound(t, "below 0", n, "-2", "-1", netOf(affine(1, 1, "1", "0")), true)
	wantRound(t, "up to 0", n, "-2", "0", netOf(affine(1, 1, "1", "0")), true)
	wantRound(t, "at 0", n, "0", "0", netOf(flat(0, 1), affine(1, 0, "", "0")), true)
}

// bareNet is a valid net of which many weights, rows and columns are zero.
func (d *draws) bareNet(most int) impl.Net {
	n := impl.Net{}
	cols := 1 + d.below(4)
	for range 1 + d.below(most) {
		rows := 1 + d.below(4)
		if d.below(20) == 0 {
			rows = 0
		}
		a := impl.Affine{Rows: rows, Cols: cols, W: d.smalls(rows * cols), B: d.smalls(rows)}
		for r := range rows {
			if d.below(8) == 0 {
				copy(a.W[r*cols:], repeated(rat(0, 1), cols))
			}
		}
		if cols > 0 && d.below(4) == 0 {
			c := d.below(cols)
			for r := range rows {
				a.W[r*cols+c] = rat(0, 1)
			}
		}
		n.Maps = append(n.Maps, a)
		cols = rows
	}
	return n
}

func wantSameInBox(t *testing.T, d *draws, before impl.Net, behind impl.Net, lo []impl.Rat, hi []impl.Rat) {
	t.Helper()
	for range 3 {
		x := d.inBox(lo, hi)
		want := mapsByWords(before, x)
		if got, ok := impl.EvalNet(behind, x); !ok || !sameRats(got, want) {
			t.Errorf("at %s: got %s, %v, want %s, from\n%sto\n%s", numbersOf(x), numbersOf(got), ok, numbersOf(want), impl.NetText(before), impl.NetText(behind))
		}
	}
}

// rounds goes on as long as there is anything to do, and holds each round against the words.
func rounds(t *testing.T, d *draws, n impl.Net, lo []impl.Rat, hi []impl.Rat, seen *tally) {
	t.Helper()
	for changed := true; changed; {
		next, ok := impl.OptRound(n, lo, hi)
		want, wantOk := roundByWords(n, lo, hi, seen)
		if ok != wantOk || !sameNet(next, want) {
			t.Fatalf("in %s .. %s, from\n%sgot %v,\n%swant %v,\n%s", numbersOf(lo), numbersOf(hi), impl.NetText(n), ok, impl.NetText(next), wantOk, impl.NetText(want))
		}
		if neuronsIn(next) > neuronsIn(n) || cellsIn(next) > cellsIn(n) || !impl.NetOk(next) {
			t.Errorf("from %d neurons and %d cells to %d and %d", neuronsIn(n), cellsIn(n), neuronsIn(next), cellsIn(next))
		}
		if ok && neuronsIn(next) == neuronsIn(n) && len(next.Maps) == len(n.Maps) || !ok && !sameNet(next, n) {
			t.Errorf("said %v, from\n%sto\n%s", ok, impl.NetText(n), impl.NetText(next))
		}
		wantSameInBox(t, d, n, next, lo, hi)
		n, changed = next, ok
	}
}

func TestP12DrawnNets(t *testing.T) {
	d := newDraws(51)
	seen := &tally{}
	for range 3000 {
		n := d.bareNet(5)
		if d.below(5) == 0 {
			n = d.net(5)
		}
		lo, hi := d.box(n.Maps[0].Cols)
		rounds(t, d, n, lo, hi, seen)
	}
	least := min(seen.below, seen.fixed, seen.unused, seen.moved, seen.several, seen.joined, seen.tooDear, seen.empty)
	if least < 150 {
		t.Errorf("%+v: the draws ask too little", *seen)
	}
}

func TestP12LoweredGraphs(t *testing.T) {
	d := newDraws(52)
	seen := &tally{}
	for range 300 {
		g := d.deepGraph(1 + d.below(8))
		n, code := impl.Lower(g)
		if code != 0 || cellsIn(n) > 1500 {
			continue
		}
		lo, hi := d.box(g.In)
		rounds(t, d, n, lo, hi, seen)
		rounds(t, d, n, g.Lo, g.Hi, seen)
	}
	if min(seen.below, seen.joined) < 100 {
		t.Errorf("%+v: the draws ask too little", *seen)
	}
}

func TestP12NetsAtTheirGreatest(t *testing.T) {
	chain := netOf(repeated(affine(1, 1, "1", "1"), impl.MaxMaps)...)
	got, changed := impl.OptRound(chain, nums("-1"), nums("1/2"))
	if !changed || !sameNet(got, netOf(affine(1, 1, "1", "10000"))) {
		t.Errorf("a long chain gives %s, %v", showNet(got), changed)
	}
	got, changed = impl.OptRound(netOf(repeated(flat(0, 0), impl.MaxMaps)...), nil, nil)
	if !changed || !sameNet(got, netOf(flat(0, 0))) {
		t.Errorf("maps without cells give %s, %v", showNet(got), changed)
	}
	many := netOf(flat(9999, 0), full(1, 9999), flat(0, 1))
	got, changed = impl.OptRound(many, nil, nil)
	if !changed || !sameNet(got, netOf(flat(0, 0))) {
		t.Errorf("many neurons give %s, %v", showNet(got), changed)
	}
	square := netOf(full(99, 99), full(100, 99))
	got, changed = impl.OptRound(square, repeated(rat(0, 1), 99), repeated(rat(1, 1), 99))
	want := netOf(impl.Affine{Rows: 100, Cols: 99, W: repeated(rat(99, 1), 9900), B: repeated(rat(100, 1), 100)})
	if !changed || !sameNet(got, want) {
		t.Errorf("two great maps give %s, %v", showNet(got), changed)
	}
	wide := netOf(flat(0, impl.MaxCells), full(3, 0))
	got, changed = impl.OptRound(wide, repeated(rat(0, 1), impl.MaxCells), repeated(rat(1, 1), impl.MaxCells))
	if changed || !sameNet(got, wide) {
		t.Errorf("many columns give %s, %v", showNet(got), changed)
	}
}

func TestP12WrongArguments(t *testing.T) {
	n := beside("1", "-5", "3")
	wantRound(t, "all is well", n, "-1", "1", alone("7"), true)
	wantNoRound(t, "nil", n, nil, nil)
	wantNoRound(t, "lo nil", n, nil, nums("1"))
	wantNoRound(t, "hi nil", n, nums("-1"), nil)
	wantNoRound(t, "both long", n, nums("-1 0"), nums("1 0"))
	wantNoRound(t, "lo long", n, nums("-1 0"), nums("1"))
	wantNoRound(t, "hi long", n, nums("-1"), nums("1 0"))
	wantNoRound(t, "crossed", n, nums("1"), nums("-1"))
	wantNoRound(t, "crossed by little", n, nums("1/3"), nums("333333333333/1000000000000"))
	for _, ill := range invalidRats() {
		wantNoRound(t, "lo not valid", n, []impl.Rat{ill}, nums("1"))
		wantNoRound(t, "hi not valid", n, nums("-1"), []impl.Rat{ill})
	}
	for _, bad := range badNets() {
		wantNoRound(t, "no box", bad, nil, nil)
		wantNoRound(t, "a box of one element", bad, nums("0"), nums("1"))
		if len(bad.Maps) > 0 && bad.Maps[0].Cols >= 0 && bad.Maps[0].Cols <= 2*impl.MaxCells {
			wantNoRound(t, "a box of as many elements as columns", bad, repeated(rat(0, 1), bad.Maps[0].Cols), repeated(rat(1, 1), bad.Maps[0].Cols))
		}
	}
	d := newDraws(53)
	for range 1000 {
		spoiled := d.net(4)
		lo, hi := d.box(spoiled.Maps[0].Cols)
		d.spoilNet(&spoiled)
		if !netOkByWords(spoiled) {
			wantNoRound(t, "spoiled", spoiled, lo, hi)
		}
	}
}

func TestP12ArgumentsStayAndAnswersAreNew(t *testing.T) {
	same := affine(2, 2, "1 0 0 1", "0 0")
	nets := []impl.Net{
		wholeNet(), netOf(same), netOf(same, same), netOf(same, same, same), netOf(flat(2, 2)), netOf(flat(2, 2), flat(2, 2)),
		netOf(affine(2, 2, "0 0 0 0", "5 5"), same), netOf(affine(2, 2, "0 1 0 -1", "5 5"), same), netOf(affine(2, 2, "0 1 0 -1", "5 5"), flat(2, 2)),
		netOf(flat(0, 2), affine(3, 0, "", "5 5 -1/2")), netOf(flat(0, 2), affine(3, 0, "", "5 5 -1/2"), affine(2, 3, "0 1 0 2 0 0", "1/2 1/2")),
	}
	for _, n := range nets {
		for _, box := range [][2]string{{"1/2 3", "1/2 3"}, {"0 0", "1 1"}, {"-1 -1", "0 0"}, {"-1 -2", "1 1"}} {
			own, lo, hi := copyNet(n), copyRats(nums(box[0])), copyRats(nums(box[1]))
			first, changed := impl.OptRound(own, lo, hi)
			again, _ := impl.OptRound(own, lo, hi)
			held := slices.Concat(stretchesOfNet(own), stretchesOfRats(lo), stretchesOfRats(hi), stretchesOfNet(first), stretchesOfNet(again))
			if overlap(held) {
				t.Errorf("%s in %v: memory of an answer is shared", showNet(n), box)
			}
			if netSpoiled(own, n) || ratsSpoiled(lo, nums(box[0])) || ratsSpoiled(hi, nums(box[1])) || !changed && !sameNet(first, n) {
				t.Errorf("%s in %v: an argument was changed", showNet(n), box)
			}
		}
	}
}

// One list may stand at several places of the arguments.
func TestP12ArgumentsThatShareMemory(t *testing.T) {
	shared := nums("-1/2 3")
	n := netOf(impl.Affine{Rows: 2, Cols: 1, W: shared, B: shared}, impl.Affine{Rows: 1, Cols: 2, W: shared, B: shared[:1]})
	for _, box := range [][2][]impl.Rat{{shared[:1], shared[1:]}, {shared[1:], shared[1:]}, {shared[:1], shared[:1]}} {
		got, changed := impl.OptRound(n, box[0], box[1])
		want, wantChanged := roundByWords(n, box[0], box[1], &tally{})
		if changed != wantChanged || !sameNet(got, want) {
			t.Errorf("got %s, %v, want %s, %v", impl.NetText(got), changed, impl.NetText(want), wantChanged)
		}
	}
}
