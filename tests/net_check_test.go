package tests

import (
	"math"
	"testing"

	"loop.example/s0015/impl"
)

func wantOk(t *testing.T, what string, n impl.Net, want bool) {
	t.Helper()
	if got := impl.NetOk(n); got != want {
		t.Errorf("%s, %s: NetOk says %v", what, showNet(n), got)
	}
	if byWords := netOkByWords(n); byWords != want {
		t.Errorf("%s, %s: the document's list says %v", what, showNet(n), byWords)
	}
}

func TestP8NumberOfMaps(t *testing.T) {
	wantOk(t, "nothing", impl.Net{}, false)
	wantOk(t, "no map", netOf(), false)
	wantOk(t, "one map", netOf(flat(1, 1)), true)
	wantOk(t, "one map without cells", netOf(flat(0, 0)), true)
	wantOk(t, "several maps", wholeNet(), true)
	wantOk(t, "MaxMaps maps without cells", netOf(repeated(flat(0, 0), impl.MaxMaps)...), true)
	wantOk(t, "MaxMaps maps with cells", netOf(repeated(flat(1, 1), impl.MaxMaps)...), true)
	wantOk(t, "one map more", netOf(repeated(flat(0, 0), impl.MaxMaps+1)...), false)
	wantOk(t, "far more maps", netOf(repeated(flat(0, 0), 5*impl.MaxMaps)...), false)
}

func TestP8SidesOfAMap(t *testing.T) {
	wantOk(t, "no rows", netOf(flat(0, 3)), true)
	wantOk(t, "no columns", netOf(flat(3, 0)), true)
	wantOk(t, "most columns", netOf(flat(0, impl.MaxCells)), true)
	wantOk(t, "most rows", netOf(flat(impl.MaxCells, 0)), true)
	wantOk(t, "a column too many", netOf(flat(0, impl.MaxCells+1)), false)
	wantOk(t, "a row too many", netOf(flat(impl.MaxCells+1, 0)), false)
	wantOk(t, "most columns of all", netOf(impl.Affine{Cols: math.MaxInt}), false)
	wantOk(t, "negative columns", netOf(impl.Affine{Cols: -1}), false)
	wantOk(t, "negative rows", netOf(impl.Affine{Rows: -1}), false)
	wantOk(t, "negative rows and columns", netOf(impl.Affine{Rows: -1, Cols: -1, W: nums("1")}), false)
	wantOk(t, "negative columns with a row", netOf(impl.Affine{Rows: 1, Cols: -1, B: nums("1")}), false)
	wantOk(t, "least columns of all", netOf(impl.Affine{Cols: math.MinInt}), false)
	wantOk(t, "least rows of all", netOf(impl.Affine{Rows: math.MinInt}), false)
	wantOk(t, "negative rows, and columns like them", netOf(impl.Affine{Rows: -1}, impl.Affine{Cols: -1}), false)
	wantOk(t, "a negative side in a later map", netOf(flat(1, 1), impl.Affine{Rows: -1, Cols: 1}, flat(0, 0)), false)
}

// In these nets the lengths are what the sizes give when their product wraps round.
func TestP8ProductsBeyondTheRange(t *testing.T) {
	four, two := nums("1 2 3 4"), nums("1 2")
	for _, a := range []impl.Affine{
		{Rows: 4, Cols: 1 << 62, B: four},
		{Rows: 4, Cols: -1 << 62, B: four},
		{Rows: 2, Cols: math.MinInt, B: two},
		{Rows: 4, Cols: 1<<62 + 1, W: four, B: four},
		{Rows: 2, Cols: math.MinInt + 1, W: two, B: two},
		{Rows: 1 << 32, Cols: 1 << 32},
		{Rows: 1 << 62, Cols: 4},
		{Rows: math.MinInt, Cols: 2},
		{Rows: math.MaxInt, Cols: math.MaxInt, W: nums("1")},
		{Rows: math.MaxInt, Cols: math.MaxInt},
		{Rows: 0, Cols: math.MaxInt},
		{Rows: 1, Cols: math.MaxInt, B: nums("1")},
	} {
		wantOk(t, "alone", netOf(a), false)
		wantOk(t, "behind another", netOf(flat(1, 1), a), false)
		wantOk(t, "before another", netOf(a, flat(1, 1)), false)
	}
}

func TestP8LengthsOfLists(t *testing.T) {
	for _, sides := range [][2]int{{0, 0}, {0, 3}, {3, 0}, {1, 1}, {2, 3}, {3, 2}, {5, 1}} {
		rows, cols := sides[0], sides[1]
		for w := range 12 {
			for b := range 8 {
				a := impl.Affine{Rows: rows, Cols: cols, W: repeated(rat(1, 2), w), B: repeated(rat(-3, 1), b)}
				good := w == rows*cols && b == rows
				wantOk(t, "alone", netOf(a), good)
				wantOk(t, "behind another", netOf(flat(cols, 2), a), good)
				wantOk(t, "before another", netOf(a, flat(2, rows)), good)
			}
		}
	}
}

func TestP8ColumnsFollowRows(t *testing.T) {
	for rows := range 4 {
		for cols := range 4 {
			wantOk(t, "two maps", netOf(flat(rows, 2), flat(1, cols)), rows == cols)
			wantOk(t, "in the middle", netOf(flat(1, 2), flat(rows, 1), flat(3, cols), flat(1, 3)), rows == cols)
			wantOk(t, "at the end", netOf(flat(3, 2), flat(rows, 3), flat(1, cols)), rows == cols)
		}
	}
	wantOk(t, "the first map may have any columns", netOf(flat(1, 7), flat(7, 1)), true)
}

func TestP8CellsOfAllMaps(t *testing.T) {
	exact := []impl.Net{
		netOf(flat(1, 19999)), netOf(flat(20000, 0)), netOf(flat(10000, 1)), netOf(flat(100, 199)), netOf(flat(2, 9999)),
		netOf(flat(1, 9999), flat(5000, 1)), netOf(flat(9999, 0), flat(1, 9999), flat(0, 1), flat(1, 0)),
	}
	for _, n := range exact {
		wantOk(t, "exactly MaxCells", n, true)
		last := n.Maps[len(n.Maps)-1].Rows
		n.Maps = append(n.Maps, flat(0, last))
		wantOk(t, "a map without cells behind", n, true)
		n.Maps = append(n.Maps, flat(1, 0))
		wantOk(t, "one cell more behind", n, false)
	}
	wantOk(t, "one cell more in one map", netOf(flat(1, 20000)), false)
	wantOk(t, "one cell more in two maps", netOf(flat(1, 10000), flat(5000, 1)), false)
	wantOk(t, "the constants count", netOf(flat(200, 100)), false)
	wantOk(t, "far more cells in one map", netOf(flat(1000, 1000)), false)
	wantOk(t, "far more cells in many maps", netOf(repeated(flat(10, 10), 1000)...), false)
}

func TestP8NumbersThatAreNotValid(t *testing.T) {
	for _, ill := range invalidRats() {
		for k := range len(wholeNet().Maps) {
			for i := range wholeNet().Maps[k].W {
				n := wholeNet()
				n.Maps[k].W[i] = ill
				wantOk(t, "an element of W", n, false)
			}
			for i := range wholeNet().Maps[k].B {
				n := wholeNet()
				n.Maps[k].B[i] = ill
				wantOk(t, "an element of B", n, false)
			}
		}
	}
	for _, good := range validRats() {
		wantOk(t, "valid numbers", netOf(impl.Affine{Rows: 1, Cols: 1, W: []impl.Rat{good}, B: []impl.Rat{good}}), true)
	}
}

func TestP8BadNets(t *testing.T) {
	for _, n := range badNets() {
		wantOk(t, "one reason", n, false)
	}
}

func TestP8DrawnNets(t *testing.T) {
	d := newDraws(21)
	good := 0
	for range 5000 {
		n := d.net(4)
		for range d.below(3) {
			d.spoilNet(&n)
		}
		want := netOkByWords(n)
		wantOk(t, "drawn", n, want)
		if want {
			good++
		}
	}
	if good < 1000 || good > 4000 {
		t.Errorf("%d of 5000 nets were valid: the draws ask too little", good)
	}
}

func TestP8NetsStayWhenChecked(t *testing.T) {
	for _, n := range append(badNets(), wholeNet(), netOf(flat(2, 2))) {
		own := copyNet(n)
		first := impl.NetOk(own)
		if netSpoiled(own, n) || impl.NetOk(own) != first {
			t.Errorf("%s was changed", showNet(n))
		}
	}
}
