package tests

import (
	"math/big"
	"slices"
	"strings"
	"testing"

	"loop.example/s0015/impl"
)

// lines is a text of some lines.
func lines(list ...string) string {
	return strings.Join(list, "\n") + "\n"
}

func TestP10TheExample(t *testing.T) {
	g := read(t, "graph 1 0\nbox -1 1\nrelu 0\nadd 1 0\noutput 2\n")
	wantLowered(t, g, lines("net 2", "map 3 1", "1 0", "-1 0", "1 0", "map 1 3", "1 -1 1 0"))
	n := lowered(t, g)
	want := netOf(affine(3, 1, "1 -1 1", "0 0 0"), affine(1, 3, "1 -1 1", "0"))
	if !sameNet(n, want) {
		t.Errorf("got %v", n)
	}
}

func TestP10GraphsWithoutSteps(t *testing.T) {
	identity := lines("net 1", "map 3 3", "1 0 0 0", "0 1 0 0", "0 0 1 0")
	wantLowered(t, graphOver(3), identity)
	wantLowered(t, graphOver(1), lines("net 1", "map 1 1", "1 0"))
	input := graphOver(3, relu(0), add(1, 0), maxpool(2, 3))
	input.Out = 0
	wantLowered(t, input, identity)
	wantLowered(t, graphOver(3, maxpool(0, 1)), identity)
	wantLowered(t, graphOver(3, maxpool(0, 1), maxpool(1, 1)), identity)
	wantLowered(t, graphOver(2, dense(0, 3, nums("1 2 3 -1/2 0 1/3 0 0 0")...)),
		lines("net 1", "map 3 2", "1 2 3", "-1/2 0 1/3", "0 0 0"))
	wantLowered(t, graphOver(2, add(0, 0)), lines("net 1", "map 2 2", "2 0 0", "0 2 0"))
	wantLowered(t, graphOver(5, conv(0, 2, 2, nums("10 1 7")...)), lines("net 1", "map 2 5", "10 1 0 0 0 7", "0 0 10 1 0 7"))
	wantLowered(t, graphOver(3, conv(0, 2, 1, nums("1/2 -1 0")...)), lines("net 1", "map 2 3", "1/2 -1 0 0", "0 1/2 -1 0"))
	wantLowered(t, graphOver(2, norm(0, nums("2 1/2 -3 1")...)), lines("net 1", "map 2 2", "-2/3 0 4/3", "0 -2/3 4/3"))
	wantLowered(t, graphOver(1, norm(0, nums("0 5 7 1/3")...)), lines("net 1", "map 1 1", "0 1/3"))
}

func TestP10RowsOfNodesWithoutSteps(t *testing.T) {
	wantLowered(t, graphOver(1, norm(0, nums("-1 0 1 5")...), add(1, 0)), lines("net 1", "map 1 1", "0 5"))
	wantLowered(t, graphOver(1, norm(0, nums("3 1 2 5")...), add(1, 1), add(2, 0)), lines("net 1", "map 1 1", "4 7"))
	wantLowered(t, graphOver(3, conv(0, 2, 1, nums("1 2 3")...), conv(1, 2, 1, nums("1 -1/2 1")...)),
		lines("net 1", "map 1 3", "1 3/2 -1 5/2"))
	wantLowered(t, graphOver(2, dense(0, 2, nums("1 1 1 1 -1 1")...), dense(1, 1, nums("1 1 1")...), dense(2, 2, nums("1/2 0 -1/2 0")...)),
		lines("net 1", "map 2 2", "1 0 3/2", "-1 0 -3/2"))
}

func TestP10Relu(t *testing.T) {
	wantLowered(t, graphOver(1, relu(0)), lines("net 2", "map 1 1", "1 0", "map 1 1", "1 0"))
	wantLowered(t, graphOver(2, relu(0)), lines("net 2", "map 2 2", "1 0 0", "0 1 0", "map 2 2", "1 0 0", "0 1 0"))
	wantLowered(t, graphOver(1, norm(0, nums("3 1 2 5")...), relu(1)), lines("net 2", "map 1 1", "3/2 7/2", "map 1 1", "1 0"))
	wantLowered(t, graphOver(2, relu(0), dense(1, 1, nums("2 -1 7")...)), lines("net 2", "map 2 2", "1 0 0", "0 1 0", "map 1 2", "2 -1 7"))
	one := []string{"map 1 1", "1 0"}
	wantLowered(t, graphOver(1, relu(0), relu(1), relu(2)), lines(slices.Concat([]string{"net 4"}, one, one, one, one)...))
}

func TestP10Leaky(t *testing.T) {
	both := []string{"net 2", "map 2 1", "1 0", "-1 0", "map 1 2"}
	for _, c := range [][2]string{{"0", "1 0 0"}, {"-1/2", "1 1/2 0"}, {"3/2", "1 -3/2 0"}, {"1", "1 -1 0"}, {"-7", "1 7 0"}} {
		wantLowered(t, graphOver(1, leaky(0, nums(c[0])...)), lines(append(slices.Clone(both), c[1])...))
	}
	wantLowered(t, graphOver(2, leaky(0, rat(3, 2))), lines("net 2", "map 4 2", "1 0 0", "-1 0 0", "0 1 0", "0 -1 0",
		"map 2 4", "1 -3/2 0 0 0", "0 0 1 -3/2 0"))
	wantLowered(t, graphOver(1, norm(0, nums("1 0 1 5")...), leaky(1, rat(0, 1)), add(2, 2)),
		lines("net 2", "map 2 1", "1 5", "-1 -5", "map 1 2", "2 0 0"))
}

func TestP10MaxPool(t *testing.T) {
	wantLowered(t, graphOver(4, maxpool(0, 2)), lines("net 2",
		"map 6 4", "1 -1 0 0 0", "0 1 0 0 0", "0 -1 0 0 0", "0 0 1 -1 0", "0 0 0 1 0", "0 0 0 -1 0",
		"map 2 6", "1 1 -1 0 0 0 0", "0 0 0 1 1 -1 0"))
	wantLowered(t, graphOver(6, maxpool(0, 3)), lines("net 3",
		"map 10 6", "1 -1 0 0 0 0 0", "0 1 0 0 0 0 0", "0 -1 0 0 0 0 0", "0 0 1 0 0 0 0", "0 0 -1 0 0 0 0",
		"0 0 0 1 -1 0 0", "0 0 0 0 1 0 0", "0 0 0 0 -1 0 0", "0 0 0 0 0 1 0", "0 0 0 0 0 -1 0",
		"map 6 10", "1 1 -1 -1 1 0 0 0 0 0 0", "0 0 0 1 -1 0 0 0 0 0 0", "0 0 0 -1 1 0 0 0 0 0 0",
		"0 0 0 0 0 1 1 -1 -1 1 0", "0 0 0 0 0 0 0 0 1 -1 0", "0 0 0 0 0 0 0 0 -1 1 0",
		"map 2 6", "1 1 -1 0 0 0 0", "0 0 0 1 1 -1 0"))
	wantLowered(t, graphOver(5, maxpool(0, 5)), lines("net 4",
		"map 8 5", "1 -1 0 0 0 0", "0 1 0 0 0 0", "0 -1 0 0 0 0", "0 0 1 -1 0 0", "0 0 0 1 0 0", "0 0 0 -1 0 0", "0 0 0 0 1 0", "0 0 0 0 -1 0",
		"map 5 8", "1 1 -1 -1 -1 1 0 0 0", "0 0 0 1 1 -1 0 0 0", "0 0 0 -1 -1 1 0 0 0", "0 0 0 0 0 0 1 -1 0", "0 0 0 0 0 0 -1 1 0",
		"map 3 5", "1 1 -1 -1 1 0", "0 0 0 1 -1 0", "0 0 0 -1 1 0",
		"map 1 3", "1 1 -1 0"))
}

func TestP10StepsOfMaxPool(t *testing.T) {
	wantWidths(t, graphOver(4, maxpool(0, 4)), 6, 3, 1)
	wantWidths(t, graphOver(6, maxpool(0, 6)), 9, 5, 3, 1)
	wantWidths(t, graphOver(7, maxpool(0, 7)), 11, 6, 3, 1)
	wantWidths(t, graphOver(8, maxpool(0, 8)), 12, 6, 3, 1)
	wantWidths(t, graphOver(9, maxpool(0, 9)), 14, 8, 5, 3, 1)
	wantWidths(t, graphOver(17, maxpool(0, 17)), 26, 14, 8, 5, 3, 1)
	wantWidths(t, graphOver(21, maxpool(0, 7)), 33, 18, 9, 3)
	wantWidths(t, graphOver(10, maxpool(0, 5)), 16, 10, 6, 2)
	for k := 1; k <= 24; k++ {
		for windows := 1; windows*k <= 24; windows++ {
			g := graphOver(windows*k, maxpool(0, k))
			if got, want := lowered(t, g), lowerByWords(g); !sameNet(got, want) {
				t.Errorf("%s: got %s, want %s", showGraph(g), showNet(got), showNet(want))
			}
		}
	}
}

// The greatest of equal, negative and mixed competitors, at every place of a window.
func TestP10ResultsOfMaxPool(t *testing.T) {
	for _, k := range []int{2, 3, 5, 6, 7, 11} {
		g := graphOver(2*k, maxpool(0, k))
		n := lowered(t, g)
		for at := range 2 * k {
			for _, base := range []impl.Rat{rat(-7, 2), rat(0, 1), rat(5, 3)} {
				x := repeated(base, 2*k)
				wantSameResults(t, g, n, x)
				x[at] = impl.RatAdd(base, rat(1, 9))
				wantSameResults(t, g, n, x)
				x[at] = impl.RatAdd(base, rat(-1, 9))
				wantSameResults(t, g, n, x)
			}
		}
	}
}

func TestP10CarriedConstants(t *testing.T) {
	wantLowered(t, graphOver(1, norm(0, nums("1 0 1 5")...), relu(0), add(1, 2)),
		lines("net 2", "map 3 1", "1 5", "-1 -5", "1 0", "map 1 3", "1 -1 1 0"))
}

// The input is used again by several nodes, and stands ahead of the other carried ones.
func TestP10OrderOfCarriedNodes(t *testing.T) {
	g := graphOver(2, dense(0, 1, nums("1 1 3")...), relu(0), dense(2, 1, nums("1 1 0")...), add(3, 1), dense(0, 1, nums("5 0 0")...), add(4, 5))
	wantLowered(t, g, lines("net 2",
		"map 8 2", "1 0 0", "-1 0 0", "0 1 0", "0 -1 0", "1 1 3", "-1 -1 -3", "1 0 0", "0 1 0",
		"map 1 8", "5 -5 0 0 1 -1 1 1 0"))
	// Node 1 is used first and node 0 last, and still node 0 comes first.
	turned := graphOver(1, norm(0, nums("2 0 1 0")...), relu(1), add(2, 1), add(3, 0))
	wantLowered(t, turned, lines("net 2", "map 5 1", "1 0", "-1 0", "2 0", "-2 0", "2 0", "map 1 5", "1 -1 1 -1 1 0"))
}

func TestP10TheSourceOfAStep(t *testing.T) {
	one := []string{"map 1 1", "1 0"}
	// It is carried, because the add has it as a source too.
	wantLowered(t, graphOver(1, relu(0), leaky(1, rat(-1, 2)), add(1, 2)), lines(slices.Concat([]string{"net 3"}, one,
		[]string{"map 4 1", "1 0", "-1 0", "1 0", "-1 0", "map 1 4", "1 -1 1 1/2 0"})...))
	// It is not carried: the nodes above lean on the step alone.
	wantLowered(t, graphOver(1, relu(0), leaky(1, rat(-1, 2)), add(2, 2)), lines(slices.Concat([]string{"net 3"}, one,
		[]string{"map 2 1", "1 0", "-1 0", "map 1 2", "2 1 0"})...))
	// Another node of the same value stands in for it.
	wantLowered(t, graphOver(1, maxpool(0, 1), relu(0), add(1, 2)), lines("net 2", "map 3 1", "1 0", "-1 0", "1 0", "map 1 3", "1 -1 1 0"))
	wantLowered(t, graphOver(1, relu(0), maxpool(1, 1), relu(0), add(2, 3)), lines("net 3", "map 3 1", "1 0", "-1 0", "1 0",
		"map 3 3", "0 0 1 0", "0 0 -1 0", "1 -1 0 0", "map 1 3", "1 -1 1 0"))
}

func TestP10CarriedThroughSeveralSteps(t *testing.T) {
	g := graphOver(3, maxpool(0, 3), conv(0, 3, 1, nums("1 1 1 0")...), add(1, 2))
	wantLowered(t, g, lines("net 3",
		"map 11 3", "1 0 0 0", "-1 0 0 0", "0 1 0 0", "0 -1 0 0", "0 0 1 0", "0 0 -1 0",
		"1 -1 0 0", "0 1 0 0", "0 -1 0 0", "0 0 1 0", "0 0 -1 0",
		"map 9 11", "1 -1 0 0 0 0 0 0 0 0 0 0", "-1 1 0 0 0 0 0 0 0 0 0 0", "0 0 1 -1 0 0 0 0 0 0 0 0", "0 0 -1 1 0 0 0 0 0 0 0 0",
		"0 0 0 0 1 -1 0 0 0 0 0 0", "0 0 0 0 -1 1 0 0 0 0 0 0",
		"0 0 0 0 0 0 1 1 -1 -1 1 0", "0 0 0 0 0 0 0 0 0 1 -1 0", "0 0 0 0 0 0 0 0 0 -1 1 0",
		"map 1 9", "1 -1 1 -1 1 -1 1 1 -1 0"))
	// A node is carried up to its last use and no further.
	wantWidths(t, graphOver(2, relu(0), relu(1), relu(2), add(3, 0), relu(4), relu(5)), 6, 6, 6, 2, 2, 2)
	wantWidths(t, graphOver(2, relu(0), relu(1), add(2, 0), relu(3), add(4, 1), relu(5)), 6, 10, 6, 2, 2)
}

func TestP10NodesThatAreNotNeeded(t *testing.T) {
	before := graphOver(1, relu(0), norm(0, nums("2 0 1 0")...), add(1, 1), relu(2), leaky(4, rat(1, 2)), add(0, 5))
	before.Out = 4
	wantLowered(t, before, lines("net 2", "map 1 1", "2 0", "map 1 1", "1 0"))
	// The add would carry the input, were it needed.
	idle := graphOver(1, relu(0), add(0, 1), relu(1))
	wantLowered(t, idle, lines("net 3", "map 1 1", "1 0", "map 1 1", "1 0", "map 1 1", "1 0"))
	// Needed by a node that is not needed is not needed.
	chain := graphOver(2, relu(0), leaky(1, rat(3, 1)), maxpool(2, 2), add(0, 0), add(3, 3))
	chain.Out = 4
	wantLowered(t, chain, lines("net 1", "map 2 2", "2 0 0", "0 2 0"))
	// What stands behind the result does not carry either.
	behind := graphOver(1, relu(0), relu(1), add(0, 1), add(2, 3))
	behind.Out = 2
	wantLowered(t, behind, lines("net 3", "map 1 1", "1 0", "map 1 1", "1 0", "map 1 1", "1 0"))
	// Node 0 is B of every node that is no add, and yet it is not a source of them.
	wantWidths(t, graphOver(2, leaky(0, rat(2, 1)), norm(1, nums("1 0 1 0")...), relu(2), conv(3, 1, 1, nums("1 0")...), maxpool(4, 2)), 4, 2, 3, 1)
}

func TestP10EveryNodeOfAGraph(t *testing.T) {
	g := wholeGraph()
	for out := range len(g.Nodes) + 1 {
		g.Out = out
		n := lowered(t, g)
		if want := lowerByWords(g); !sameNet(n, want) {
			t.Errorf("node %d: got %s, want %s", out, impl.NetText(n), impl.NetText(want))
		}
		for _, x := range []string{"0 0 0 3", "1 0 7/3 4", "-1 -2 -3 -4", "1/2 -1/3 1/5 -1/7", "1000000000000 -1 0 1/1000000000000"} {
			wantSameResults(t, g, n, nums(x))
		}
	}
}

// countByWords is the number of cells by the document, for counts beyond any int too.
func countByWords(g impl.Graph) *big.Int {
	dims, _, _ := checkByWords(g)
	w := &wordLowering{g: g, needed: map[int]bool{}}
	w.need(g.Out)
	total, width := new(big.Int), big.NewInt(int64(g.In))
	layer := func(rows int) {
		total.Add(total, bigProduct(rows, new(big.Int).Add(width, big.NewInt(1))))
		width.SetInt64(int64(rows))
	}
	for i := 1; i <= g.Out; i++ {
		if !w.needed[i] {
			continue
		}
		carried := 0
		for _, j := range w.carried(i) {
			carried += 2 * dims[j]
		}
		n := g.Nodes[i-1]
		switch n.Op {
		case impl.OpRelu:
			layer(carried + dims[i])
		case impl.OpLeaky:
			layer(carried + 2*dims[i])
		case impl.OpMaxPool:
			for left := n.K; left > 1; left = (left + 1) / 2 {
				layer(carried + dims[i]*(3*(left/2)+2*(left%2)))
			}
		}
	}
	layer(dims[g.Out])
	return total
}

// wantCells asks for a graph's cells, and for code 17 when they are more than MaxCells.
func wantCells(t *testing.T, g impl.Graph, cells int) {
	t.Helper()
	if count := countByWords(g); count.Cmp(big.NewInt(int64(cells))) != 0 {
		t.Errorf("%s: the words count %d cells, not %d", showGraph(g), count, cells)
	}
	if cells > impl.MaxCells {
		wantRefused(t, showGraph(g), g, 17)
		return
	}
	if n := lowered(t, g); cellsIn(n) != cells || !impl.NetOk(n) {
		t.Errorf("%s: %d cells, want %d", showGraph(g), cellsIn(n), cells)
	}
}

// spread is a dense node of ones.
func spread(a int, k int, dim int) impl.Node {
	return dense(a, k, repeated(rat(1, 1), k*(dim+1))...)
}

func TestP10CellsAtTheLimit(t *testing.T) {
	straight := func(in int, r int) impl.Graph { return graphOver(in, spread(0, r, in)) }
	wantCells(t, straight(199, 100), 20000)
	wantCells(t, straight(999, 20), 20000)
	wantCells(t, straight(19, 1000), 20000)
	wantCells(t, straight(176, 113), 20001)
	wantCells(t, straight(112, 177), 20001)
	wantCells(t, graphOver(140), 19740)
	wantCells(t, graphOver(141), 20022)
	rectified := func(a int, r int) impl.Graph { return graphOver(a, relu(0), spread(1, r, a)) }
	wantCells(t, rectified(19, 981), 20000)
	wantCells(t, rectified(79, 171), 20000)
	wantCells(t, rectified(112, 65), 20001)
	wantCells(t, rectified(58, 281), 20001)
	leaking := func(a int, r int) impl.Graph { return graphOver(a, leaky(0, rat(0, 1)), spread(1, r, a)) }
	wantCells(t, leaking(90, 20), 20000)
	wantCells(t, leaking(54, 129), 20001)
	carrying := func(m int, a int, r int) impl.Graph {
		return graphOver(m, spread(0, a, m), relu(1), add(2, 1), spread(3, r, a))
	}
	wantCells(t, carrying(1, 24, 272), 20000)
	wantCells(t, carrying(9, 19, 335), 20000)
	wantCells(t, carrying(6, 20, 321), 20001)
	wantCells(t, carrying(8, 38, 165), 20001)
	pooling := func(k int, m int, w int, r int) impl.Graph {
		return graphOver(m, spread(0, k*w, m), maxpool(1, k), spread(2, r, w))
	}
	wantCells(t, pooling(3, 8, 32, 32), 20000)
	wantCells(t, pooling(3, 12, 31, 37), 20001)
	wantCells(t, pooling(5, 19, 12, 272), 20000)
	wantCells(t, pooling(5, 7, 14, 191), 20001)
	both := func(m int, w int, r int) impl.Graph {
		return graphOver(m, spread(0, 3*w, m), maxpool(1, 3), conv(1, 3, 3, nums("1 1 1 0")...), add(2, 3), spread(4, r, w))
	}
	wantCells(t, both(34, 8, 144), 20000)
	wantCells(t, both(23, 10, 81), 20001)
}

// More nodes than are needed do not count.
func TestP10CellsOfNeededNodesAlone(t *testing.T) {
	g := graphOver(100, relu(0), relu(1), relu(2), add(3, 0), conv(0, 100, 1, repeated(rat(1, 1), 101)...))
	wantCells(t, g, 101)
	g.Out = 4
	wantCells(t, g, 300*101+300*301+300*301+100*301)
	g.Out = 1
	wantCells(t, g, 2*100*101)
}

// wide has count relus over an input of dim elements, all of which are carried to the end.
func wide(dim int, count int, node func(a int) impl.Node) impl.Graph {
	g := graphOver(dim)
	for i := range count {
		g.Nodes = append(g.Nodes, node(i))
	}
	sum := 0
	for i := range count {
		g.Nodes = append(g.Nodes, add(sum, i+1))
		sum = len(g.Nodes)
	}
	g.Out = sum
	return g
}

func TestP10FarTooManyCells(t *testing.T) {
	chain := graphOver(impl.MaxDim)
	for i := range impl.MaxNodes {
		chain.Nodes = append(chain.Nodes, relu(i))
	}
	chain.Out = impl.MaxNodes
	pools := graphOver(impl.MaxDim)
	for i := range 499 {
		pools.Nodes = append(pools.Nodes, norm(i, nums("1 0 1 0")...))
	}
	pools.Nodes = append(pools.Nodes, maxpool(499, 500), maxpool(499, 1000))
	for i := range 499 {
		pools.Nodes = append(pools.Nodes, add(0, i))
	}
	pools.Out = 1000
	graphs := []impl.Graph{
		chain,
		pools,
		wide(impl.MaxDim, 500, relu),
		wide(impl.MaxDim, 500, func(a int) impl.Node { return leaky(a, rat(1, 2)) }),
		wide(1, 500, relu),
		graphOver(impl.MaxDim, maxpool(0, impl.MaxDim)),
		graphOver(impl.MaxDim),
	}
	for _, g := range graphs {
		if _, code, _ := impl.CheckGraph(g); code != 0 || countByWords(g).Cmp(big.NewInt(impl.MaxCells)) <= 0 {
			t.Fatalf("%s: code %d, %d cells", showGraph(g), code, countByWords(g))
		}
		checking := bytesOf(func() { impl.CheckGraph(g) })
		lowering := bytesOf(func() { wantRefused(t, "far too many cells", g, 17) })
		// The count takes some lists of node numbers, and nothing more.
		if lowering > checking+32<<20 {
			t.Errorf("%s: %d bytes for a refusal, %d for the check", showGraph(g), lowering, checking)
		}
	}
}

// Vectors of many elements over many inputs, but few cells in the net.
func TestP10WideVectorsAndFewCells(t *testing.T) {
	g := graphOver(impl.MaxDim)
	for range 60 {
		g.Nodes = append(g.Nodes, norm(0, nums("2 1 3 1")...))
	}
	sum := 1
	for i := range 59 {
		g.Nodes = append(g.Nodes, add(sum, i+2))
		sum = len(g.Nodes)
	}
	g.Nodes = append(g.Nodes, conv(sum, impl.MaxDim, 1, repeated(rat(1, 1), impl.MaxDim+1)...))
	g.Out = len(g.Nodes)
	var n impl.Net
	if asked := bytesOf(func() { n = lowered(t, g) }); asked > 1<<30 {
		t.Errorf("%d bytes for a net of %d cells", asked, cellsIn(n))
	}
	want := impl.Affine{Rows: 1, Cols: impl.MaxDim, W: repeated(rat(40, 1), impl.MaxDim), B: nums("20001")}
	if !sameNet(n, netOf(want)) {
		t.Errorf("got %s", showNet(n))
	}
}

func TestP10LongRowsOfNodes(t *testing.T) {
	doubling := graphOver(1)
	stepping := graphOver(1)
	for i := range impl.MaxNodes {
		doubling.Nodes = append(doubling.Nodes, add(i, i))
		stepping.Nodes = append(stepping.Nodes, relu(i))
	}
	doubling.Out, stepping.Out = impl.MaxNodes, impl.MaxNodes
	power := new(big.Rat).SetInt(new(big.Int).Lsh(big.NewInt(1), impl.MaxNodes))
	if n := lowered(t, doubling); !sameNet(n, netOf(impl.Affine{Rows: 1, Cols: 1, W: []impl.Rat{ratOf(power)}, B: nums("0")})) {
		t.Errorf("a row of adds gives %s", showNet(n))
	}
	if n := lowered(t, stepping); !sameNet(n, netOf(repeated(affine(1, 1, "1", "0"), impl.MaxNodes+1)...)) {
		t.Errorf("a row of relus gives %s", showNet(n))
	}
}

func TestP10LongNumbers(t *testing.T) {
	d := newDraws(31)
	for range 30 {
		v := []impl.Rat{}
		for range 8 {
			v = append(v, d.rat(12))
		}
		x := []impl.Rat{d.rat(12), d.rat(12), d.rat(12)}
		g := graphOver(3, dense(0, 2, v...), leaky(1, d.rat(12)), conv(0, 2, 1, v[:3]...), add(2, 3), maxpool(4, 2))
		n := lowered(t, g)
		if want := lowerByWords(g); !sameNet(n, want) {
			t.Errorf("%s: the coefficients differ", showGraph(g))
		}
		wantSameResults(t, g, n, x)
	}
}

// inBox is a point of a box, often at its sides.
func (d *draws) inBox(lo []impl.Rat, hi []impl.Rat) []impl.Rat {
	x := []impl.Rat{}
	for c := range lo {
		low, high := valueOf(lo[c]), valueOf(hi[c])
		part := big.NewRat(int64(d.below(5)), 4)
		x = append(x, ratOf(plus(low, times(part, new(big.Rat).Sub(high, low)))))
	}
	return x
}

// deepNode leans on a node close before it most often.
func (d *draws) deepNode(dims []int) impl.Node {
	last := len(dims) - 1
	a := last - d.below(min(last, 2)+1)
	switch d.below(10) {
	case 0, 1, 2:
		return relu(a)
	case 3, 4:
		return leaky(a, d.small())
	case 5, 6, 7:
		return add(a, d.below(len(dims)))
	case 8:
		k := 1 + d.below(6)
		return dense(a, k, d.smalls(k*(dims[a]+1))...)
	}
	return d.node(dims)
}

// deepGraph is a valid graph of which many nodes are needed.
func (d *draws) deepGraph(count int) impl.Graph {
	g := d.graph(0)
	dims := []int{g.In}
	for len(g.Nodes) < count {
		n := d.deepNode(dims)
		if dim, code := nodeCode(n, len(dims), dims); code == 0 {
			g.Nodes = append(g.Nodes, n)
			dims = append(dims, dim)
		}
	}
	g.Out = len(g.Nodes) - d.below(2)
	return g
}

func TestP10DrawnGraphs(t *testing.T) {
	d := newDraws(32)
	built, steps, refused := 0, 0, 0
	for range 1500 {
		g := d.graph(10)
		if d.below(3) > 0 {
			g = d.deepGraph(1 + d.below(24))
		}
		if count := countByWords(g); count.Cmp(big.NewInt(6000)) > 0 {
			if count.Cmp(big.NewInt(impl.MaxCells)) > 0 {
				wantRefused(t, showGraph(g), g, 17)
				refused++
			}
			continue
		}
		n := lowered(t, g)
		if want := lowerByWords(g); !sameNet(n, want) {
			t.Fatalf("%s: got\n%s\nwant\n%s", showGraph(g), impl.NetText(n), impl.NetText(want))
		}
		wantSameResults(t, g, n, d.inBox(g.Lo, g.Hi))
		wantSameResults(t, g, n, d.smalls(g.In))
		wantSameResults(t, g, n, d.smalls(g.In))
		built++
		steps += len(n.Maps) - 1
	}
	if built < 1000 || steps < 2*built {
		t.Errorf("%d graphs with %d steps, %d refused: the draws ask too little", built, steps, refused)
	}
}

func TestP10BoxAndRoundsHaveNoInfluence(t *testing.T) {
	d := newDraws(33)
	for range 100 {
		g := d.graph(6)
		n, code := impl.Lower(g)
		other := g
		other.Rounds = (g.Rounds + 77) % (impl.MaxRounds + 1)
		other.Lo, other.Hi = d.smalls(g.In), nil
		for _, low := range other.Lo {
			other.Hi = append(other.Hi, impl.RatAdd(low, rat(int64(d.below(3)), 5)))
		}
		if again, otherCode := impl.Lower(other); otherCode != code || !sameNet(n, again) {
			t.Errorf("%s: another box gives another net", showGraph(g))
		}
	}
}

func TestP10GraphsThatAreNotValid(t *testing.T) {
	wantRefused(t, "nothing", impl.Graph{}, 10)
	wantRefused(t, "no input", graphOver(0), 10)
	wantRefused(t, "too wide an input", graphOver(impl.MaxDim+1), 10)
	wantRefused(t, "too many nodes", graphOver(1, repeated(relu(0), impl.MaxNodes+1)...), 10)
	rounds := graphOver(2, relu(0))
	rounds.Rounds = -1
	wantRefused(t, "Rounds", rounds, 10)
	crossed := graphOver(2, relu(0))
	crossed.Lo[1] = rat(10, 1)
	wantRefused(t, "the box", crossed, 11)
	for _, f := range failures() {
		wantRefused(t, "a node that fails", graphOver(2, f.node), f.code)
		behind := graphOver(2, relu(0), f.node)
		behind.Out = 1
		wantRefused(t, "a node behind the result fails", behind, f.code)
		large := graphOver(impl.MaxDim, relu(0), impl.Node{Op: 9})
		wantRefused(t, "a node fails ahead of the count", large, 12)
	}
	for _, out := range []int{-1, 2, 1000} {
		g := graphOver(2, relu(0))
		g.Out = out
		wantRefused(t, "Out", g, 16)
	}
	for _, ill := range invalidRats() {
		wantRefused(t, "a number that is not valid", graphOver(2, leaky(0, ill)), 12)
		boxed := graphOver(2)
		boxed.Hi[0] = ill
		wantRefused(t, "a side that is not valid", boxed, 10)
	}
	d := newDraws(34)
	for range 1000 {
		g := d.graph(6)
		for i := range g.Nodes {
			g.Nodes[i] = d.spoilNode(g.Nodes[i])
		}
		if _, code, _ := checkByWords(g); code != 0 {
			wantRefused(t, showGraph(g), g, code)
		}
	}
}

func TestP10ArgumentsStayAndAnswersAreNew(t *testing.T) {
	graphs := []impl.Graph{
		wholeGraph(), graphOver(4), graphOver(3, relu(0)), graphOver(4, relu(0), relu(1), maxpool(2, 1), maxpool(3, 2)), graphOver(5, maxpool(0, 5), relu(0)),
		graphOver(2, dense(0, 2, nums("0 0 5 0 0 5")...)), graphOver(2, conv(0, 1, 1, nums("0 7")...)), graphOver(2, conv(0, 1, 1, nums("7 7")...)),
	}
	for _, node := range someNodes() {
		graphs = append(graphs, graphOver(2, node), graphOver(2, node, maxpool(1, 1), relu(2)), graphOver(2, node, relu(0), leaky(1, rat(-2, 3)), add(1, 3)))
	}
	for _, g := range graphs {
		for out := range len(g.Nodes) + 1 {
			g.Out = out
			own := copyGraph(g)
			first, _ := impl.Lower(own)
			again, _ := impl.Lower(own)
			held := slices.Concat(stretchesOfGraph(own), stretchesOfNet(first), stretchesOfNet(again))
			if overlap(held) {
				t.Errorf("%s: memory of an answer is shared", showGraph(g))
			}
			if graphSpoiled(own, g) || !sameNet(first, again) {
				t.Errorf("%s: an argument was changed", showGraph(g))
			}
		}
	}
}

// One list may stand at several places of the argument.
func TestP10ArgumentsThatShareMemory(t *testing.T) {
	shared := nums("-1/2 3 5/7")
	g := impl.Graph{In: 3, Lo: shared, Hi: shared, Nodes: []impl.Node{conv(0, 2, 1, shared...), conv(0, 2, 1, shared...), leaky(1, shared[:1]...), add(2, 3)}, Out: 4}
	if got, want := lowered(t, g), lowerByWords(g); !sameNet(got, want) {
		t.Errorf("got %s, want %s", impl.NetText(got), impl.NetText(want))
	}
}
