package tests

import (
	"fmt"
	"math"
	"math/big"
	"slices"
	"strings"

	"loop.example/s0015/impl"
)

// affine is a map from the texts of its numbers.
func affine(rows int, cols int, w string, b string) impl.Affine {
	return impl.Affine{Rows: rows, Cols: cols, W: nums(w), B: nums(b)}
}

// flat is a map of zeros.
func flat(rows int, cols int) impl.Affine {
	return impl.Affine{Rows: rows, Cols: cols, W: repeated(rat(0, 1), rows*cols), B: repeated(rat(0, 1), rows)}
}

func netOf(maps ...impl.Affine) impl.Net {
	return impl.Net{Maps: maps}
}

// wholeNet has maps without rows, without columns, and numbers of every kind.
func wholeNet() impl.Net {
	return netOf(
		affine(3, 2, "1 0 -1/2 3 -7 2/3", "0 -12345678901234567890/7 5"),
		affine(1, 3, "1/3 -1 0", "1000000000000000000000"),
		affine(0, 1, "", ""),
		affine(2, 0, "", "-4 1/2"),
		affine(1, 2, "-1 1", "-1/9"),
	)
}

const wholeNetText = "net 5\n" +
	"map 3 2\n" +
	"1 0 0\n" +
	"-1/2 3 -12345678901234567890/7\n" +
	"-7 2/3 5\n" +
	"map 1 3\n" +
	"1/3 -1 0 1000000000000000000000\n" +
	"map 0 1\n" +
	"map 2 0\n" +
	"-4\n" +
	"1/2\n" +
	"map 1 2\n" +
	"-1 1 -1/9\n"

func sameAffine(a impl.Affine, b impl.Affine) bool {
	return a.Rows == b.Rows && a.Cols == b.Cols && sameRats(a.W, b.W) && sameRats(a.B, b.B)
}

func sameNet(a impl.Net, b impl.Net) bool {
	return slices.EqualFunc(a.Maps, b.Maps, sameAffine)
}

func copyNet(n impl.Net) impl.Net {
	maps := []impl.Affine{}
	for _, a := range n.Maps {
		a.W, a.B = copyRats(a.W), copyRats(a.B)
		maps = append(maps, a)
	}
	return impl.Net{Maps: withSpare(maps, impl.Affine{Rows: 77})}
}

// netSpoiled says whether what copyNet gave is no longer as it was.
func netSpoiled(n impl.Net, before impl.Net) bool {
	if len(n.Maps) != len(before.Maps) {
		return true
	}
	for k, a := range n.Maps {
		if ratsSpoiled(a.W, before.Maps[k].W) || ratsSpoiled(a.B, before.Maps[k].B) {
			return true
		}
	}
	return !sameNet(n, before) || n.Maps[:len(n.Maps)+1][len(n.Maps)].Rows != 77
}

func stretchesOfNet(n impl.Net) []stretch {
	held := []stretch{stretchOf(n.Maps)}
	for _, a := range n.Maps {
		held = append(held, stretchesOfRats(a.W)...)
		held = append(held, stretchesOfRats(a.B)...)
	}
	return held
}

// showNet is for messages.
func showNet(n impl.Net) string {
	out := fmt.Sprintf("net %d:", len(n.Maps))
	for k, a := range n.Maps {
		if k == 5 {
			return out + " .."
		}
		out += fmt.Sprintf(" {%d by %d, %d and %d nums}", a.Rows, a.Cols, len(a.W), len(a.B))
	}
	return out
}

// hasCount says whether a list has a number of elements that may be beyond any int.
func hasCount(list []impl.Rat, count *big.Int) bool {
	return big.NewInt(int64(len(list))).Cmp(count) == 0
}

func bigProduct(a int, b *big.Int) *big.Int {
	return new(big.Int).Mul(big.NewInt(int64(a)), b)
}

// netOkByWords is NetOk by the document's list, with products that have no limit.
func netOkByWords(n impl.Net) bool {
	good := len(n.Maps) >= 1 && len(n.Maps) <= impl.MaxMaps
	cells := new(big.Int)
	for k, a := range n.Maps {
		good = good && a.Rows >= 0 && a.Rows <= impl.MaxCells && a.Cols >= 0 && a.Cols <= impl.MaxCells
		good = good && hasCount(a.W, bigProduct(a.Rows, big.NewInt(int64(a.Cols)))) && hasCount(a.B, big.NewInt(int64(a.Rows)))
		good = good && (k == 0 || a.Cols == n.Maps[k-1].Rows)
		cells.Add(cells, bigProduct(a.Rows, new(big.Int).Add(big.NewInt(int64(a.Cols)), big.NewInt(1))))
		good = good && !slices.ContainsFunc(slices.Concat(a.W, a.B), func(r impl.Rat) bool { return !validByWords(r) })
	}
	return good && cells.Cmp(big.NewInt(impl.MaxCells)) <= 0
}

// mapsByWords runs a valid net.
func mapsByWords(n impl.Net, x []impl.Rat) []impl.Rat {
	v := valuesOf(x)
	for k, a := range n.Maps {
		if k > 0 {
			for e := range v {
				if v[e].Sign() < 0 {
					v[e] = new(big.Rat)
				}
			}
		}
		next := []*big.Rat{}
		for r := range a.Rows {
			sum := valueOf(a.B[r])
			for c := range a.Cols {
				sum = plus(sum, times(valueOf(a.W[r*a.Cols+c]), v[c]))
			}
			next = append(next, sum)
		}
		v = next
	}
	result := []impl.Rat{}
	for _, value := range v {
		result = append(result, ratOf(value))
	}
	return result
}

// small is a number of few digits, often zero.
func (d *draws) small() impl.Rat {
	if d.below(4) == 0 {
		return rat(0, 1)
	}
	return rat(int64(d.below(19))-9, int64(1+d.below(4)))
}

func (d *draws) smalls(count int) []impl.Rat {
	list := []impl.Rat{}
	for range count {
		list = append(list, d.small())
	}
	return list
}

// net is a valid net with up to most maps; a width of 0 is among its widths.
func (d *draws) net(most int) impl.Net {
	n := impl.Net{}
	cols := d.below(5)
	for range 1 + d.below(most) {
		rows := d.below(5)
		n.Maps = append(n.Maps, impl.Affine{Rows: rows, Cols: cols, W: d.smalls(rows * cols), B: d.smalls(rows)})
		cols = rows
	}
	return n
}

// odd is a size that may be wrong in many ways.
func (d *draws) odd(size int) int {
	sizes := []int{-1, 0, 1, size - 1, size + 1, -size, impl.MaxCells, impl.MaxCells + 1, 1 << 31, 1 << 32, 1 << 62, -1 << 62, math.MaxInt, math.MinInt}
	return sizes[d.below(len(sizes))]
}

// spoilNet changes a net in one place, often so that it is no longer valid.
func (d *draws) spoilNet(n *impl.Net) {
	if len(n.Maps) == 0 {
		return
	}
	a := &n.Maps[d.below(len(n.Maps))]
	switch d.below(8) {
	case 0:
		a.Rows = d.odd(a.Rows)
	case 1:
		a.Cols = d.odd(a.Cols)
	case 2:
		a.Rows, a.Cols = a.Cols, a.Rows
	case 3:
		a.W = append(a.W, d.small())
	case 4:
		a.B = a.B[:d.below(len(a.B)+1)]
	case 5:
		if len(a.W) > 0 {
			a.W[d.below(len(a.W))] = invalidRats()[d.below(len(invalidRats()))]
		}
	case 6:
		if len(a.B) > 0 {
			a.B[d.below(len(a.B))] = invalidRats()[d.below(len(invalidRats()))]
		}
	case 7:
		n.Maps = n.Maps[:d.below(len(n.Maps)+1)]
	}
}

// badNets are not valid, each for one reason.
func badNets() []impl.Net {
	nets := []impl.Net{
		{},
		{Maps: []impl.Affine{}},
		netOf(repeated(flat(0, 0), impl.MaxMaps+1)...),
		netOf(flat(0, impl.MaxCells+1)),
		netOf(impl.Affine{Rows: 0, Cols: -1}),
		netOf(impl.Affine{Rows: -1, Cols: 0}),
		netOf(flat(1, impl.MaxCells)),
		netOf(flat(1, 2), flat(1, 2)),
		netOf(impl.Affine{Rows: 4, Cols: 1 << 62, B: nums("1 2 3 4")}),
		netOf(impl.Affine{Rows: 1, Cols: 1, W: nums("1 2"), B: nums("1")}),
		netOf(impl.Affine{Rows: 1, Cols: 1, W: nums("1"), B: nums("1 2")}),
		netOf(impl.Affine{Rows: 1, Cols: 1, B: nums("1")}),
		netOf(impl.Affine{Rows: 1, Cols: 1, W: nums("1")}),
	}
	for _, ill := range invalidRats() {
		nets = append(nets, netOf(impl.Affine{Rows: 1, Cols: 1, W: []impl.Rat{ill}, B: nums("1")}))
		nets = append(nets, netOf(impl.Affine{Rows: 1, Cols: 1, W: nums("1"), B: []impl.Rat{ill}}))
	}
	return nets
}

// paddedTo is a text with blanks behind it, so that it has a number of bytes.
func paddedTo(text string, size int, pad string) string {
	return text + strings.Repeat(pad, size-len(text))
}
