package tests

import (
	"math/big"
	"runtime"
	"slices"
	"testing"

	"loop.example/s0015/impl"
)

// line is an affine function of the current layer: its coefficients, and its constant behind them.
type line []*big.Rat

func flatLine(width int) line {
	flat := line{}
	for range width + 1 {
		flat = append(flat, new(big.Rat))
	}
	return flat
}

// axis is column c of a layer.
func axis(width int, c int) line {
	l := flatLine(width)
	l[c].SetInt64(1)
	return l
}

func scaled(factor *big.Rat, l line) line {
	out := line{}
	for _, k := range l {
		out = append(out, times(factor, k))
	}
	return out
}

func sumLine(a line, b line) line {
	out := line{}
	for c := range a {
		out = append(out, plus(a[c], b[c]))
	}
	return out
}

func minusLine(l line) line {
	return scaled(big.NewRat(-1, 1), l)
}

// wordLowering is Lower by the words of the document, coefficient by coefficient.
type wordLowering struct {
	g       impl.Graph
	needed  map[int]bool
	width   int
	vectors map[int][]line
	maps    []impl.Affine
}

func (w *wordLowering) need(i int) {
	if w.needed[i] {
		return
	}
	w.needed[i] = true
	if i == 0 {
		return
	}
	n := w.g.Nodes[i-1]
	w.need(n.A)
	if n.Op == impl.OpAdd {
		w.need(n.B)
	}
}

func (w *wordLowering) carried(i int) []int {
	sources := make([]bool, len(w.g.Nodes)+1)
	for above := i + 1; above <= len(w.g.Nodes); above++ {
		if n := w.g.Nodes[above-1]; w.needed[above] {
			sources[n.A] = true
			if n.Op == impl.OpAdd {
				sources[n.B] = true
			}
		}
	}
	list := []int{}
	for j := range i {
		if sources[j] {
			list = append(list, j)
		}
	}
	return list
}

func (w *wordLowering) lay(lines []line) {
	a := impl.Affine{Rows: len(lines), Cols: w.width}
	for _, l := range lines {
		for _, k := range l[:w.width] {
			a.W = append(a.W, ratOf(k))
		}
		a.B = append(a.B, ratOf(l[w.width]))
	}
	w.maps = append(w.maps, a)
}

// step gives the own neurons as they are behind the step.
func (w *wordLowering) step(i int, own []line) []line {
	neurons := []line{}
	carried := w.carried(i)
	for _, j := range carried {
		for _, v := range w.vectors[j] {
			neurons = append(neurons, v, minusLine(v))
		}
	}
	first := len(neurons)
	neurons = append(neurons, own...)
	w.lay(neurons)
	w.width = len(neurons)
	at, vectors := 0, map[int][]line{}
	for _, j := range carried {
		for range w.vectors[j] {
			vectors[j] = append(vectors[j], sumLine(axis(w.width, at), minusLine(axis(w.width, at+1))))
			at += 2
		}
	}
	w.vectors = vectors
	behind := []line{}
	for k := range own {
		behind = append(behind, axis(w.width, first+k))
	}
	return behind
}

// straight is the vector of a node that makes no layer.
func (w *wordLowering) straight(n impl.Node, dim int) []line {
	x, z, v := w.vectors[n.A], w.vectors[n.B], valuesOf(n.V)
	y := []line{}
	for e := range dim {
		sum := flatLine(w.width)
		switch n.Op {
		case impl.OpDense:
			for j := range x {
				sum = sumLine(sum, scaled(v[e*(len(x)+1)+j], x[j]))
			}
			sum[w.width] = plus(sum[w.width], v[e*(len(x)+1)+len(x)])
		case impl.OpAdd:
			sum = sumLine(x[e], z[e])
		case impl.OpMaxPool:
			sum = x[e]
		case impl.OpConv:
			for t := range n.K {
				sum = sumLine(sum, scaled(v[t], x[e*n.S+t]))
			}
			sum[w.width] = plus(sum[w.width], v[n.K])
		case impl.OpNorm:
			sum = sumLine(sum, x[e])
			sum[w.width] = new(big.Rat).Sub(sum[w.width], v[1])
			sum = scaled(new(big.Rat).Quo(v[0], v[2]), sum)
			sum[w.width] = plus(sum[w.width], v[3])
		}
		y = append(y, sum)
	}
	return y
}

func (w *wordLowering) leaky(i int, x []line, slope *big.Rat) []line {
	own := []line{}
	for _, v := range x {
		own = append(own, v, minusLine(v))
	}
	behind := w.step(i, own)
	y := []line{}
	for e := range x {
		y = append(y, sumLine(behind[2*e], minusLine(scaled(slope, behind[2*e+1]))))
	}
	return y
}

func (w *wordLowering) pool(i int, x []line, k int) []line {
	windows := [][]line{}
	for e := range len(x) / k {
		windows = append(windows, x[e*k:e*k+k])
	}
	for len(windows[0]) > 1 {
		own := []line{}
		for _, c := range windows {
			for p := 0; p+1 < len(c); p += 2 {
				own = append(own, sumLine(c[p], minusLine(c[p+1])), c[p+1], minusLine(c[p+1]))
			}
			if len(c)%2 == 1 {
				own = append(own, c[len(c)-1], minusLine(c[len(c)-1]))
			}
		}
		behind := w.step(i, own)
		for e, c := range windows {
			next := []line{}
			for range len(c) / 2 {
				next = append(next, sumLine(sumLine(behind[0], behind[1]), minusLine(behind[2])))
				behind = behind[3:]
			}
			if len(c)%2 == 1 {
				next = append(next, sumLine(behind[0], minusLine(behind[1])))
				behind = behind[2:]
			}
			windows[e] = next
		}
	}
	y := []line{}
	for _, c := range windows {
		y = append(y, c[0])
	}
	return y
}

// lowerByWords is for valid graphs with few cells.
func lowerByWords(g impl.Graph) impl.Net {
	dims, _, _ := checkByWords(g)
	w := &wordLowering{g: g, needed: map[int]bool{}, width: g.In, vectors: map[int][]line{}}
	w.need(g.Out)
	for c := range g.In {
		w.vectors[0] = append(w.vectors[0], axis(g.In, c))
	}
	for i := 1; i <= len(g.Nodes); i++ {
		n := g.Nodes[i-1]
		if !w.needed[i] {
			continue
		}
		x := w.vectors[n.A]
		var y []line
		switch {
		case n.Op == impl.OpRelu:
			y = w.step(i, x)
		case n.Op == impl.OpLeaky:
			y = w.leaky(i, x, valueOf(n.V[0]))
		case n.Op == impl.OpMaxPool && n.K > 1:
			y = w.pool(i, x, n.K)
		default:
			y = w.straight(n, dims[i])
		}
		w.vectors[i] = y
	}
	w.lay(w.vectors[g.Out])
	return impl.Net{Maps: w.maps}
}

func cellsIn(n impl.Net) int {
	cells := 0
	for _, a := range n.Maps {
		cells += a.Rows * (a.Cols + 1)
	}
	return cells
}

func neuronsIn(n impl.Net) int {
	neurons := 0
	for _, a := range n.Maps[:len(n.Maps)-1] {
		neurons += a.Rows
	}
	return neurons
}

// lowered is the net of a graph that is valid and within MaxCells.
func lowered(t *testing.T, g impl.Graph) impl.Net {
	t.Helper()
	n, code := impl.Lower(g)
	if code != 0 {
		t.Fatalf("%s: code %d", showGraph(g), code)
	}
	return n
}

// wantLowered asks for the net of a graph by its text, and for that of the words beside it.
func wantLowered(t *testing.T, g impl.Graph, want string) {
	t.Helper()
	n := lowered(t, g)
	if got := impl.NetText(n); got != want {
		t.Errorf("%s: got\n%swant\n%s", showGraph(g), got, want)
	}
	if got := impl.NetText(lowerByWords(g)); got != want {
		t.Errorf("%s: the words give\n%swant\n%s", showGraph(g), got, want)
	}
}

func wantRefused(t *testing.T, what string, g impl.Graph, want int) {
	t.Helper()
	if n, code := impl.Lower(g); code != want || len(n.Maps) != 0 {
		t.Errorf("%s: %s, code %d; want code %d", what, showNet(n), code, want)
	}
}

// wantWidths asks for the rows of each map; it does not look at the coefficients.
func wantWidths(t *testing.T, g impl.Graph, want ...int) {
	t.Helper()
	rows := []int{}
	for _, a := range lowered(t, g).Maps {
		rows = append(rows, a.Rows)
	}
	if !slices.Equal(rows, want) {
		t.Errorf("%s: rows %v, want %v", showGraph(g), rows, want)
	}
}

// wantSameResults holds the lowered net against the graph at an input.
func wantSameResults(t *testing.T, g impl.Graph, n impl.Net, x []impl.Rat) {
	t.Helper()
	got, ok := impl.EvalNet(n, x)
	if want := evalByTable(g, x); !ok || !sameRats(got, want) {
		t.Errorf("%s at %s: the net gives %s, %v, the graph %s", showGraph(g), numbersOf(x), numbersOf(got), ok, numbersOf(want))
	}
}

// bytesOf is how much memory is asked for while do runs.
func bytesOf(do func()) uint64 {
	var before, behind runtime.MemStats
	runtime.ReadMemStats(&before)
	do()
	runtime.ReadMemStats(&behind)
	return behind.TotalAlloc - before.TotalAlloc
}
