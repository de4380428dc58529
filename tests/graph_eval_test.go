package tests

import (
	"math/big"
	"slices"
	"testing"

	"loop.example/s0015/impl"
)

// graph is a valid graph with up to most nodes, and any of them as its result.
func (d *draws) graph(most int) impl.Graph {
	g := graphOver(1 + d.below(6))
	g.Rounds = d.below(impl.MaxRounds + 1)
	for j := range g.In {
		g.Lo[j] = d.rat(2)
		g.Hi[j] = impl.RatAdd(g.Lo[j], rat(int64(d.below(3)), 7))
	}
	dims := []int{g.In}
	for range d.below(most + 1) {
		n := d.node(dims)
		dim, code := nodeCode(n, len(dims), dims)
		if code == 0 {
			g.Nodes = append(g.Nodes, n)
			dims = append(dims, dim)
		}
	}
	g.Out = d.below(len(g.Nodes) + 1)
	return g
}

func valuesOf(list []impl.Rat) []*big.Rat {
	values := []*big.Rat{}
	for _, r := range list {
		values = append(values, valueOf(r))
	}
	return values
}

func times(a *big.Rat, b *big.Rat) *big.Rat {
	return new(big.Rat).Mul(a, b)
}

func plus(a *big.Rat, b *big.Rat) *big.Rat {
	return new(big.Rat).Add(a, b)
}

// element is element e of the vector of a node by the document's table.
func element(n impl.Node, e int, x []*big.Rat, z []*big.Rat) *big.Rat {
	v := valuesOf(n.V)
	switch n.Op {
	case impl.OpDense:
		sum := v[e*(len(x)+1)+len(x)]
		for j := range x {
			sum = plus(sum, times(v[e*(len(x)+1)+j], x[j]))
		}
		return sum
	case impl.OpRelu:
		if x[e].Sign() >= 0 {
			return x[e]
		}
		return new(big.Rat)
	case impl.OpLeaky:
		if x[e].Sign() >= 0 {
			return x[e]
		}
		return times(v[0], x[e])
	case impl.OpAdd:
		return plus(x[e], z[e])
	case impl.OpMaxPool:
		return slices.MaxFunc(x[e*n.K:e*n.K+n.K], (*big.Rat).Cmp)
	case impl.OpConv:
		sum := v[n.K]
		for t := range n.K {
			sum = plus(sum, times(v[t], x[e*n.S+t]))
		}
		return sum
	}
	away := new(big.Rat).Sub(x[e], v[1])
	return plus(new(big.Rat).Quo(times(v[0], away), v[2]), v[3])
}

// evalByTable is the result of a valid graph.
func evalByTable(g impl.Graph, x []impl.Rat) []impl.Rat {
	dims, _, _ := checkByWords(g)
	vectors := [][]*big.Rat{valuesOf(x)}
	for i, n := range g.Nodes {
		y := []*big.Rat{}
		for e := range dims[i+1] {
			y = append(y, element(n, e, vectors[n.A], vectors[n.B]))
		}
		vectors = append(vectors, y)
	}
	result := []impl.Rat{}
	for _, value := range vectors[g.Out] {
		result = append(result, ratOf(value))
	}
	return result
}

func wantResult(t *testing.T, g impl.Graph, x []impl.Rat, want []impl.Rat) {
	t.Helper()
	got, ok := impl.EvalGraph(g, x)
	if !ok || !sameRats(got, want) {
		t.Errorf("%s at %s: got %v, %v, want %s", showGraph(g), numbersOf(x), got, ok, numbersOf(want))
	}
}

func wantNoResult(t *testing.T, what string, g impl.Graph, x []impl.Rat) {
	t.Helper()
	if got, ok := impl.EvalGraph(g, x); ok || len(got) != 0 {
		t.Errorf("%s: got %v, %v", what, got, ok)
	}
}

func TestP7EachOperator(t *testing.T) {
	cases := []struct {
		node    impl.Node
		x, want string
	}{
		{dense(0, 2, nums("1 2 3 10 -1/2 0 1/3 -1")...), "2 5 -7", "1 -13/3"},
		{dense(0, 1, nums("0 0 0")...), "2 5", "0"},
		{dense(0, 3, nums("1 0 0 -1 1/2 2")...), "1/3", "1/3 -1 13/6"},
		{relu(0), "-1 0 1 -1/1000000000000 1/1000000000000", "0 0 1 0 1/1000000000000"},
		{leaky(0, rat(1, 3)), "-2 0 2 -1/5", "-2/3 0 2 -1/15"},
		{leaky(0, rat(-1, 2)), "-2 0 2 -1/5", "1 0 2 1/10"},
		{leaky(0, rat(5, 2)), "-2 0 2 -1/5", "-5 0 2 -1/2"},
		{leaky(0, rat(0, 1)), "-2 0 2 -1/5", "0 0 2 0"},
		{leaky(0, rat(1, 1)), "-2 0 2 -1/5", "-2 0 2 -1/5"},
		{leaky(0, rat(-1, 1)), "-2 0 2 -1/5", "2 0 2 1/5"},
		{add(0, 0), "-2 0 2 1/6", "-4 0 4 1/3"},
		{maxpool(0, 1), "-2 0 2 1/6", "-2 0 2 1/6"},
		{maxpool(0, 2), "-2 0 2 1/6", "0 2"},
		{maxpool(0, 4), "-2 0 2 1/6", "2"},
		{maxpool(0, 3), "-1/2 -1/3 -1/4 7 7 7", "-1/4 7"},
		{maxpool(0, 3), "1/3 333333333333/1000000000000 333333333334/1000000000000 5 5 4", "333333333334/1000000000000 5"},
		{maxpool(0, 2), "0 0 -3 -3 1/2 1/2", "0 -3 1/2"},
		{conv(0, 2, 1, nums("10 1 7")...), "1 2 3 4 5", "19 30 41 52"},
		{conv(0, 2, 2, nums("10 1 7")...), "1 2 3 4 5", "19 41"},
		{conv(0, 2, 3, nums("10 1 7")...), "1 2 3 4 5", "19 52"},
		{conv(0, 2, 4, nums("10 1 7")...), "1 2 3 4 5", "19"},
		{conv(0, 3, 2, nums("1 0 -1 1/2")...), "1 2 3 4 5 6", "-3/2 -3/2"},
		{conv(0, 5, 9, nums("1 1 1 1 1 0")...), "1 2 3 4 5", "15"},
		{conv(0, 1, 2, nums("-1/3 0")...), "1 2 3 4 5", "-1/3 -1 -5/3"},
		{conv(0, 1, 1000, nums("2 1")...), "1 2 3", "3"},
		{norm(0, nums("2 1 4 -1")...), "3 1 0", "0 -1 -3/2"},
		{norm(0, nums("-2/3 1/2 -5/7 1/9")...), "0 1/2 -3", "-16/45 1/9 -142/45"},
		{norm(0, nums("0 5 7 1/3")...), "0 1/2 -3", "1/3 1/3 1/3"},
		{norm(0, nums("1 0 -1 0")...), "0 1/2 -3", "0 -1/2 3"},
	}
	for _, c := range cases {
		x := nums(c.x)
		g := graphOver(len(x), c.node)
		wantResult(t, g, x, nums(c.want))
		if want := evalByTable(g, x); !sameRats(want, nums(c.want)) {
			t.Errorf("%s at %s: the table gives %s", showGraph(g), c.x, numbersOf(want))
		}
	}
}

func TestP7AddOfTwoNodes(t *testing.T) {
	g := graphOver(2, relu(0), leaky(0, rat(-3, 1)), add(1, 2), add(2, 1), add(0, 3), add(5, 5))
	x := nums("-1/2 5")
	for out, want := range []string{"-1/2 5", "0 5", "3/2 5", "3/2 10", "3/2 10", "1 15", "2 30"} {
		g.Out = out
		wantResult(t, g, x, nums(want))
	}
}

func TestP7TheInputAsTheResult(t *testing.T) {
	g := graphOver(3, relu(0))
	g.Out = 0
	wantResult(t, g, nums("-1/2 0 7"), nums("-1/2 0 7"))
	wantResult(t, graphOver(1), nums("-1/2"), nums("-1/2"))
}

func TestP7EveryNodeOfAGraph(t *testing.T) {
	for _, x := range []string{"0 0 0 0", "1 2 3 4", "-1 -2 -3 -4", "1/2 -1/3 1/5 -1/7", "1000000000000 -1 0 1/1000000000000"} {
		g := wholeGraph()
		for out := range len(g.Nodes) + 1 {
			g.Out = out
			wantResult(t, g, nums(x), evalByTable(g, nums(x)))
		}
	}
}

func TestP7InputsOutsideTheBox(t *testing.T) {
	g := graphOver(2, add(0, 0))
	g.Lo, g.Hi = nums("0 0"), nums("0 0")
	wantResult(t, g, nums("100 -1/3"), nums("200 -2/3"))
	wantResult(t, g, nums("0 0"), nums("0 0"))
}

func TestP7RoundsDoNotMatter(t *testing.T) {
	g := graphOver(2, add(0, 0))
	g.Rounds = impl.MaxRounds
	wantResult(t, g, nums("1 2"), nums("2 4"))
}

func TestP7LongNumbers(t *testing.T) {
	d := newDraws(14)
	for range 50 {
		v := []impl.Rat{}
		for range 8 {
			v = append(v, d.rat(12))
		}
		x := []impl.Rat{d.rat(12), d.rat(12), d.rat(12)}
		g := graphOver(3, dense(0, 2, v...), leaky(1, d.rat(12)), conv(0, 2, 1, v[:3]...), add(2, 3), maxpool(4, 2))
		wantResult(t, g, x, evalByTable(g, x))
	}
}

func TestP7LongChains(t *testing.T) {
	g := graphOver(1)
	for i := range impl.MaxNodes {
		g.Nodes = append(g.Nodes, add(i, i))
	}
	g.Out = impl.MaxNodes
	power := new(big.Rat).SetInt(new(big.Int).Lsh(big.NewInt(1), impl.MaxNodes))
	wantResult(t, g, nums("1"), []impl.Rat{ratOf(power)})
	wantResult(t, g, nums("-1/3"), []impl.Rat{ratOf(power.Mul(power, big.NewRat(-1, 3)))})
}

func TestP7DrawnGraphs(t *testing.T) {
	d := newDraws(15)
	for range 2000 {
		g := d.graph(9)
		x := []impl.Rat{}
		for range g.In {
			x = append(x, rat(int64(d.below(21))-10, int64(1+d.below(4))))
		}
		wantResult(t, g, x, evalByTable(g, x))
	}
}

func TestP7InputsThatAreNotGood(t *testing.T) {
	g := graphOver(2, relu(0))
	wantNoResult(t, "nil", g, nil)
	wantNoResult(t, "short", g, nums("1"))
	wantNoResult(t, "long", g, nums("1 2 3"))
	for _, ill := range invalidRats() {
		wantNoResult(t, "first not valid", g, []impl.Rat{ill, rat(1, 1)})
		wantNoResult(t, "second not valid", g, []impl.Rat{rat(1, 1), ill})
	}
	// What the result does not lean on counts too.
	lone := graphOver(2, conv(0, 1, 2, nums("1 0")...))
	wantResult(t, lone, nums("3 4"), nums("3"))
	wantNoResult(t, "an element that is not looked at", lone, []impl.Rat{rat(3, 1), {}})
}

func TestP7GraphsThatAreNotValid(t *testing.T) {
	x := nums("1 2")
	wantNoResult(t, "nothing", impl.Graph{}, nil)
	wantNoResult(t, "nothing", impl.Graph{}, x)
	wantNoResult(t, "no input", graphOver(0), nil)
	for _, f := range failures() {
		wantNoResult(t, "a node that fails", graphOver(2, f.node), x)
		behind := graphOver(2, relu(0), f.node)
		behind.Out = 1
		wantNoResult(t, "a node behind the result fails", behind, x)
	}
	for _, out := range []int{-1, 2} {
		g := graphOver(2, relu(0))
		g.Out = out
		wantNoResult(t, "Out", g, x)
	}
	crossed := graphOver(2, relu(0))
	crossed.Lo[1] = rat(10, 1)
	wantNoResult(t, "the box", crossed, x)
	rounds := graphOver(2, relu(0))
	rounds.Rounds = impl.MaxRounds + 1
	wantNoResult(t, "Rounds", rounds, x)
}

func TestP7ArgumentsStayAndAnswersAreNew(t *testing.T) {
	graphs := []impl.Graph{wholeGraph(), graphOver(4), graphOver(3, relu(0)), graphOver(4, relu(0), relu(1), maxpool(2, 1), maxpool(3, 2))}
	for _, node := range someNodes() {
		graphs = append(graphs, graphOver(2, node), graphOver(2, node, maxpool(1, 1), relu(2)))
	}
	graphs = append(graphs, graphOver(2, dense(0, 2, nums("0 0 5 0 0 5")...)), graphOver(2, conv(0, 1, 1, nums("0 7")...)))
	for _, g := range graphs {
		for _, pick := range []string{"1/2 3 0 -5", "0 0 0 0", "-1 -1 -1 -1", "1 1 1 1"} {
			x := nums(pick)[:g.In]
			own, input := copyGraph(g), copyRats(x)
			for out := range len(g.Nodes) + 1 {
				own.Out, g.Out = out, out
				first, _ := impl.EvalGraph(own, input)
				again, _ := impl.EvalGraph(own, input)
				held := append(stretchesOfGraph(own), stretchesOfRats(input)...)
				held = append(held, stretchesOfRats(first)...)
				held = append(held, stretchesOfRats(again)...)
				if overlap(held) {
					t.Errorf("%s at %s: memory of an answer is shared", showGraph(g), pick)
				}
				if graphSpoiled(own, g) || ratsSpoiled(input, x) {
					t.Fatalf("%s at %s: an argument was changed", showGraph(g), pick)
				}
			}
		}
	}
}

// One list may stand at several places of the arguments.
func TestP7ArgumentsThatShareMemory(t *testing.T) {
	shared := nums("-1/2 3 5/7")
	g := impl.Graph{In: 3, Lo: shared, Hi: shared, Nodes: []impl.Node{dense(0, 1, append(slices.Clone(shared), shared[0])...), conv(0, 2, 1, shared...)}, Out: 1}
	wantResult(t, g, shared, evalByTable(g, shared))
	g.Out = 2
	wantResult(t, g, shared, evalByTable(g, shared))
}
