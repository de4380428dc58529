package tests

import (
	"fmt"
	"math/big"
	"slices"
	"strings"
	"testing"

	"loop.example/s0015/impl"
)

// headByWords is the code and the place of the first failure ahead of the nodes; 0 when there is none.
func headByWords(g impl.Graph) (int, int) {
	good := g.In >= 1 && g.In <= 1000 && g.Rounds >= 0 && g.Rounds <= 1000 && len(g.Lo) == g.In && len(g.Hi) == g.In && len(g.Nodes) <= 1000
	if !good || slices.ContainsFunc(slices.Concat(g.Lo, g.Hi), func(r impl.Rat) bool { return !validByWords(r) }) {
		return 10, 0
	}
	for j := range g.Lo {
		if valueOf(g.Lo[j]).Cmp(valueOf(g.Hi[j])) > 0 {
			return 11, j
		}
	}
	return 0, 0
}

// printByWords is the text of a net.
func printByWords(n impl.Net) string {
	text := fmt.Sprintf("net %d\n", len(n.Maps))
	for _, a := range n.Maps {
		text += fmt.Sprintf("map %d %d\n", a.Rows, a.Cols)
		for r := range a.Rows {
			row := append(slices.Clone(a.W[r*a.Cols:r*a.Cols+a.Cols]), a.B[r])
			text += numbersOf(row) + "\n"
		}
	}
	return text
}

// isReadable says whether a printed net is within the limits of its reader.
func isReadable(text string) bool {
	runs := strings.FieldsFunc(text, func(r rune) bool { return r < '0' || r > '9' })
	return len(text) <= 100000 && !slices.ContainsFunc(runs, func(run string) bool { return len(run) > 400 })
}

// compileByWords is Compile for texts of graphs with few cells. Of the reading it takes the graph alone from the program.
func compileByWords(patterns linePatterns, text string) impl.Result {
	if len(text) > 20000 {
		return impl.Result{Code: 1}
	}
	if line := patterns.wrongLine(text); line != 0 {
		return impl.Result{Code: 2, At: line}
	}
	g, _, _ := impl.ParseGraph(text)
	if code, at := headByWords(g); code != 0 {
		return impl.Result{Code: code, At: at}
	}
	if _, code, at := checkByWords(g); code != 0 {
		return impl.Result{Code: code, At: at}
	}
	if countByWords(g).Cmp(big.NewInt(20000)) > 0 {
		return impl.Result{Code: 17}
	}
	n, done := lowerByWords(g), 0
	next, more := roundByWords(n, g.Lo, g.Hi, &tally{})
	for more && done < g.Rounds {
		n, done = next, done+1
		next, more = roundByWords(n, g.Lo, g.Hi, &tally{})
	}
	printed := printByWords(n)
	if !isReadable(printed) {
		return impl.Result{Code: 18}
	}
	return impl.Result{Text: printed, Rounds: done, Capped: more}
}

// wantCompiled asks for all of an answer.
func wantCompiled(t *testing.T, text string, want impl.Result) {
	t.Helper()
	if got := impl.Compile(text); got != want {
		t.Errorf("%.300q: got %s, want %s", text, showResult(got), showResult(want))
	}
}

// wantCompileCode asks for a code that is not 0, and for nothing beside its place.
func wantCompileCode(t *testing.T, text string, code int, at int) {
	t.Helper()
	wantCompiled(t, text, impl.Result{Code: code, At: at})
}

func showResult(r impl.Result) string {
	return fmt.Sprintf("code %d at %d, %d rounds, capped %v, %d bytes %.300q", r.Code, r.At, r.Rounds, r.Capped, len(r.Text), r.Text)
}

// compiled is the answer for a graph that compiles, and the net of its text.
func compiled(t *testing.T, g impl.Graph) (impl.Result, impl.Net) {
	t.Helper()
	r := impl.Compile(impl.GraphText(g))
	n, code := impl.ReadNet(r.Text)
	if r.Code != 0 || r.At != 0 || code != 0 {
		t.Fatalf("%s: %s, read with code %d", showGraph(g), showResult(r), code)
	}
	return r, n
}

// boxed is a graph with another box and another number of rounds.
func boxed(g impl.Graph, lo string, hi string, rounds int) impl.Graph {
	g.Lo, g.Hi, g.Rounds = nums(lo), nums(hi), rounds
	return g
}

// lattice has the corners of a box of few elements, the middles of its edges and sides, and its own middle.
func lattice(lo []impl.Rat, hi []impl.Rat) [][]impl.Rat {
	points := [][]impl.Rat{{}}
	for c := range lo {
		middle := ratOf(times(big.NewRat(1, 2), plus(valueOf(lo[c]), valueOf(hi[c]))))
		longer := [][]impl.Rat{}
		for _, x := range points {
			for _, end := range []impl.Rat{lo[c], middle, hi[c]} {
				longer = append(longer, append(slices.Clone(x), end))
			}
		}
		points = longer
	}
	return points
}

// wantSettled asks that no round would find anything to do in a net, reason by reason.
func wantSettled(t *testing.T, g impl.Graph, n impl.Net) {
	t.Helper()
	spans := boundsByWords(n, g.Lo, g.Hi)
	for k := range len(n.Maps) - 1 {
		before, behind := gridOf(n.Maps[k]), gridOf(n.Maps[k+1])
		open := true
		for r := range before.w {
			if valueOf(spans[k].Hi[r]).Sign() <= 0 || before.zeroRow(r) || behind.zeroColumn(r) {
				t.Errorf("%s: neuron %d of layer %d is there in\n%s", showGraph(g), r, k, impl.NetText(n))
			}
			open = open && valueOf(spans[k].Lo[r]).Sign() >= 0
		}
		if open && len(behind.w)*(before.cols+1) <= before.cells()+behind.cells() {
			t.Errorf("%s: layer %d is open in\n%s", showGraph(g), k, impl.NetText(n))
		}
	}
}

// peeling is a graph of which each of count rounds drops one neuron: the result leaves the first of two alone, so it
// is the last of them that is without use, then the one before it.
func peeling(count int, rounds int) impl.Graph {
	g := boxed(graphOver(1, dense(0, 2, nums("1 0 2 1")...), relu(1)), "-1", "1", rounds)
	for range count - 1 {
		g.Nodes = append(g.Nodes, dense(len(g.Nodes), 2, nums("1 0 0 0 1 -1/1000")...))
		g.Nodes = append(g.Nodes, relu(len(g.Nodes)))
	}
	g.Nodes = append(g.Nodes, dense(len(g.Nodes), 1, nums("0 1 7")...))
	g.Out = len(g.Nodes)
	return g
}

// layered is a graph that is lowered to the net itself; no map of it is without rows or columns.
func layered(n impl.Net) impl.Graph {
	g := graphOver(n.Maps[0].Cols)
	for k, a := range n.Maps {
		if k > 0 {
			g.Nodes = append(g.Nodes, relu(len(g.Nodes)))
		}
		v := []impl.Rat{}
		for r := range a.Rows {
			v = append(append(v, a.W[r*a.Cols:r*a.Cols+a.Cols]...), a.B[r])
		}
		g.Nodes = append(g.Nodes, dense(len(g.Nodes), a.Rows, v...))
	}
	g.Out = len(g.Nodes)
	return g
}

// layeredGraph has weights of which many are zero, so that several rounds are often of use.
func (d *draws) layeredGraph() impl.Graph {
	n := d.bareNet(7)
	for slices.ContainsFunc(n.Maps, func(a impl.Affine) bool { return a.Rows == 0 }) {
		n = d.bareNet(7)
	}
	return layered(n)
}

// compilable is a valid graph with a box of short sides, few cells, and often a low number of rounds.
func (d *draws) compilable() impl.Graph {
	for {
		g := d.layeredGraph()
		switch d.below(4) {
		case 0:
			g = d.graph(8)
		case 1:
			g = d.deepGraph(1 + d.below(10))
		}
		g.Lo, g.Hi = d.box(g.In)
		g.Rounds = []int{0, 1, 1, 2, 3, 1000, 1000}[d.below(7)]
		if countByWords(g).Cmp(big.NewInt(1200)) <= 0 && len(impl.GraphText(g)) <= impl.MaxText {
			return g
		}
	}
}
