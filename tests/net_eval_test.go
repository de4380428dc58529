package tests

import (
	"math/big"
	"testing"

	"loop.example/s0015/impl"
)

func wantImage(t *testing.T, n impl.Net, x []impl.Rat, want []impl.Rat) {
	t.Helper()
	got, ok := impl.EvalNet(n, x)
	if !ok || !sameRats(got, want) {
		t.Errorf("%s at %s: got %v, %v, want %s", showNet(n), numbersOf(x), got, ok, numbersOf(want))
	}
}

func wantNoImage(t *testing.T, what string, n impl.Net, x []impl.Rat) {
	t.Helper()
	if got, ok := impl.EvalNet(n, x); ok || len(got) != 0 {
		t.Errorf("%s, %s: got %v, %v", what, showNet(n), got, ok)
	}
}

func TestP8NetsByHand(t *testing.T) {
	carried := netOf(affine(3, 1, "1 -1 1", "0 0 0"), affine(1, 3, "1 -1 1", "0"))
	cases := []struct {
		n       impl.Net
		x, want string
	}{
		{netOf(affine(1, 1, "2", "3")), "5", "13"},
		{netOf(affine(1, 1, "2", "3")), "-5", "-7"},
		{netOf(affine(2, 3, "1 2 3 -1/2 0 1/3", "10 -1")), "2 5 -7", "1 -13/3"},
		{netOf(affine(3, 2, "1 2 3 4 5 6", "1/2 1/3 1/5")), "1 -1", "-1/2 -2/3 -4/5"},
		{netOf(affine(2, 2, "0 1 1 0", "0 0")), "7/3 -7/3", "-7/3 7/3"},
		{netOf(affine(1, 2, "0 0", "-3/7")), "5 6", "-3/7"},
		{carried, "-2", "-2"},
		{carried, "3", "6"},
		{carried, "0", "0"},
		{carried, "-1/3", "-1/3"},
		{carried, "1/3", "2/3"},
		{netOf(affine(1, 1, "1", "-1"), affine(1, 1, "1", "-1")), "3", "1"},
		{netOf(affine(1, 1, "1", "-1"), affine(1, 1, "1", "-1")), "1", "-1"},
		{netOf(affine(1, 1, "1", "-1"), affine(1, 1, "1", "-1")), "0", "-1"},
		{netOf(affine(1, 1, "1", "-1"), affine(1, 1, "1", "-1"), affine(1, 1, "-2", "1/2")), "3", "-3/2"},
		{netOf(affine(1, 1, "1", "-1"), affine(1, 1, "1", "-1"), affine(1, 1, "-2", "1/2")), "1", "1/2"},
		{netOf(affine(2, 1, "1 1", "-1/2 0"), affine(2, 2, "-2 1 1/3 -1", "0 1"), affine(1, 2, "1 6", "-7")), "2/3", "-13/3"},
	}
	for _, c := range cases {
		wantImage(t, c.n, nums(c.x), nums(c.want))
		if byWords := mapsByWords(c.n, nums(c.x)); !sameRats(byWords, nums(c.want)) {
			t.Errorf("%s at %s: by the words it is %s", showNet(c.n), c.x, numbersOf(byWords))
		}
	}
}

// The element that leaves the last map may be negative; those before it may not.
func TestP8ReluBetweenMapsAlone(t *testing.T) {
	same := affine(1, 1, "1", "0")
	wantImage(t, netOf(same), nums("-5/2"), nums("-5/2"))
	wantImage(t, netOf(same, same), nums("-5/2"), nums("0"))
	wantImage(t, netOf(same, same), nums("5/2"), nums("5/2"))
	wantImage(t, netOf(same, affine(1, 1, "-1", "0")), nums("5/2"), nums("-5/2"))
	wantImage(t, netOf(same, affine(1, 1, "-1", "0"), same), nums("5/2"), nums("0"))
	wantImage(t, netOf(affine(1, 1, "-1", "0"), same), nums("-5/2"), nums("5/2"))
	// The input is not put through ReLU.
	wantImage(t, netOf(affine(1, 2, "1 1", "0"), same), nums("-1 3"), nums("2"))
}

func TestP8MapsWithoutRowsOrColumns(t *testing.T) {
	none := []impl.Rat{}
	wantImage(t, netOf(flat(0, 0)), none, none)
	wantImage(t, netOf(flat(0, 0)), nil, none)
	wantImage(t, netOf(flat(0, 2)), nums("1 2"), none)
	wantImage(t, netOf(affine(2, 0, "", "-1/2 3")), none, nums("-1/2 3"))
	wantImage(t, netOf(affine(2, 0, "", "-1/2 3")), nil, nums("-1/2 3"))
	wantImage(t, netOf(flat(0, 1), affine(1, 0, "", "5")), nums("9"), nums("5"))
	wantImage(t, netOf(flat(0, 1), affine(2, 0, "", "-4 5"), affine(1, 2, "1 1", "0")), nums("9"), nums("5"))
	wantImage(t, netOf(flat(3, 2), flat(0, 3), flat(0, 0), flat(0, 0), affine(1, 0, "", "-5")), nums("9 9"), nums("-5"))
	wantImage(t, netOf(affine(1, 0, "", "-1"), affine(1, 1, "5", "2")), none, nums("2"))
	wantImage(t, netOf(flat(0, impl.MaxCells)), repeated(rat(1, 3), impl.MaxCells), none)
	wantImage(t, netOf(flat(impl.MaxCells, 0)), none, repeated(rat(0, 1), impl.MaxCells))
	wantImage(t, wholeNet(), nums("1 2"), nums("7/18"))

	wantNoImage(t, "elements for no column", netOf(flat(0, 0)), nums("1"))
	wantNoImage(t, "elements for no column", netOf(flat(2, 0)), nums("1"))
	wantNoImage(t, "no elements for columns without rows", netOf(flat(0, 2)), nil)
	wantNoImage(t, "an ill element that no row looks at", netOf(flat(0, 1)), []impl.Rat{{}})
	wantNoImage(t, "an ill element times zero", netOf(flat(1, 1)), []impl.Rat{{}})
}

func TestP8LongNumbersInNets(t *testing.T) {
	d := newDraws(22)
	for range 40 {
		long := func(count int) []impl.Rat {
			list := []impl.Rat{}
			for range count {
				list = append(list, d.rat(10))
			}
			return list
		}
		n := netOf(
			impl.Affine{Rows: 3, Cols: 2, W: long(6), B: long(3)},
			impl.Affine{Rows: 2, Cols: 3, W: long(6), B: long(2)},
			impl.Affine{Rows: 1, Cols: 2, W: long(2), B: long(1)},
		)
		x := long(2)
		wantImage(t, n, x, mapsByWords(n, x))
	}
}

func TestP8NetsAtTheirGreatest(t *testing.T) {
	up := affine(1, 1, "1", "1")
	wantImage(t, netOf(repeated(up, impl.MaxMaps)...), nums("1/2"), nums("20001/2"))
	wantImage(t, netOf(repeated(up, impl.MaxMaps)...), nums("-20000"), nums("9999"))
	wide := impl.Affine{Rows: 1, Cols: impl.MaxCells - 1, W: repeated(rat(1, 2), impl.MaxCells-1), B: nums("1/2")}
	wantImage(t, netOf(wide), repeated(rat(1, 1), impl.MaxCells-1), nums("10000"))
	square := impl.Affine{Rows: 100, Cols: 199, W: repeated(rat(-1, 3), 100*199), B: repeated(rat(1, 7), 100)}
	wantImage(t, netOf(square), repeated(rat(1, 2), 199), repeated(rat(-1387, 42), 100))

	double := affine(1, 1, "2", "0")
	power := new(big.Rat).SetInt(new(big.Int).Lsh(big.NewInt(1), 2000))
	wantImage(t, netOf(repeated(double, 2000)...), nums("1"), []impl.Rat{ratOf(power)})
}

func TestP8DrawnNetsRun(t *testing.T) {
	d := newDraws(23)
	for range 3000 {
		n := d.net(5)
		x := d.smalls(n.Maps[0].Cols)
		wantImage(t, n, x, mapsByWords(n, x))
	}
}

func TestP8InputsThatAreNotGood(t *testing.T) {
	n := netOf(affine(1, 2, "1 1", "0"), affine(3, 1, "1 2 3", "0 0 0"))
	wantImage(t, n, nums("1 2"), nums("3 6 9"))
	wantNoImage(t, "nil", n, nil)
	wantNoImage(t, "short", n, nums("1"))
	wantNoImage(t, "long", n, nums("1 2 3"))
	for _, ill := range invalidRats() {
		wantNoImage(t, "first not valid", n, []impl.Rat{ill, rat(1, 1)})
		wantNoImage(t, "second not valid", n, []impl.Rat{rat(1, 1), ill})
	}
}

func TestP8NetsThatAreNotValidDoNotRun(t *testing.T) {
	for _, n := range badNets() {
		wantNoImage(t, "no element", n, nil)
		wantNoImage(t, "one element", n, nums("1"))
		if len(n.Maps) > 0 && n.Maps[0].Cols >= 0 && n.Maps[0].Cols <= 2*impl.MaxCells {
			wantNoImage(t, "as many elements as columns", n, repeated(rat(1, 1), n.Maps[0].Cols))
		}
	}
	for k := range len(wholeNet().Maps) {
		n := wholeNet()
		n.Maps[k].Rows++
		wantNoImage(t, "a map with too many rows", n, nums("1 2"))
	}
}

func TestP8ArgumentsStayAndAnswersAreNew(t *testing.T) {
	same := affine(2, 2, "1 0 0 1", "0 0")
	nets := []impl.Net{
		wholeNet(), netOf(same), netOf(same, same), netOf(flat(2, 2)), netOf(affine(2, 2, "0 0 0 0", "5 5")), netOf(affine(2, 2, "0 1 0 1", "5 5")),
		netOf(flat(0, 2), affine(3, 0, "", "5 5 -1/2")), netOf(flat(0, 2), affine(3, 0, "", "5 5 -1/2"), affine(2, 3, "0 0 0 0 0 0", "1/2 1/2")),
	}
	for _, n := range nets {
		for _, pick := range []string{"1/2 3", "0 0", "-1 -1", "1 1"} {
			x := nums(pick)
			own, input := copyNet(n), copyRats(x)
			first, _ := impl.EvalNet(own, input)
			again, _ := impl.EvalNet(own, input)
			held := append(stretchesOfNet(own), stretchesOfRats(input)...)
			held = append(held, stretchesOfRats(first)...)
			held = append(held, stretchesOfRats(again)...)
			if overlap(held) {
				t.Errorf("%s at %s: memory of an answer is shared", showNet(n), pick)
			}
			if netSpoiled(own, n) || ratsSpoiled(input, x) {
				t.Errorf("%s at %s: an argument was changed", showNet(n), pick)
			}
		}
	}
}

// One list may stand at several places of the arguments, and one number at several places of a list.
func TestP8ArgumentsThatShareMemory(t *testing.T) {
	shared := nums("-1/2 3")
	n := netOf(impl.Affine{Rows: 2, Cols: 1, W: shared, B: shared}, impl.Affine{Rows: 1, Cols: 2, W: shared, B: shared[:1]})
	wantImage(t, n, shared[1:], mapsByWords(n, shared[1:]))
	fixed := netOf(impl.Affine{Rows: 3, Cols: 0, B: repeated(rat(7, 3), 3)})
	first, _ := impl.EvalNet(fixed, nil)
	if overlap(append(stretchesOfRats(first), stretchesOfRats(fixed.Maps[0].B[:1])...)) {
		t.Errorf("numbers of an answer share memory")
	}
}
