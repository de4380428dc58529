package tests

import (
	"math"
	"slices"
	"testing"

	"loop.example/s0015/impl"
)

// wantFailure asks for a code and a place, with no dimensions beside them.
func wantFailure(t *testing.T, what string, g impl.Graph, code int, place int) {
	t.Helper()
	dims, gotCode, gotPlace := impl.CheckGraph(g)
	if gotCode != code || gotPlace != place || len(dims) != 0 {
		t.Errorf("%s: %v, code %d at %d; want code %d at %d", what, dims, gotCode, gotPlace, code, place)
	}
}

func wantDims(t *testing.T, what string, g impl.Graph, want ...int) {
	t.Helper()
	dims, code, place := impl.CheckGraph(g)
	if code != 0 || place != 0 || !slices.Equal(dims, want) {
		t.Errorf("%s: %v, code %d at %d; want %v", what, dims, code, place, want)
	}
}

// repeated is a list of count equal elements.
func repeated[T any](element T, count int) []T {
	return slices.Repeat([]T{element}, count)
}

func relu(a int) impl.Node {
	return impl.Node{Op: impl.OpRelu, A: a}
}

func dense(a int, k int, v ...impl.Rat) impl.Node {
	return impl.Node{Op: impl.OpDense, A: a, K: k, V: v}
}

func conv(a int, k int, s int, v ...impl.Rat) impl.Node {
	return impl.Node{Op: impl.OpConv, A: a, K: k, S: s, V: v}
}

func maxpool(a int, k int) impl.Node {
	return impl.Node{Op: impl.OpMaxPool, A: a, K: k}
}

func add(a int, b int) impl.Node {
	return impl.Node{Op: impl.OpAdd, A: a, B: b}
}

func leaky(a int, v ...impl.Rat) impl.Node {
	return impl.Node{Op: impl.OpLeaky, A: a, V: v}
}

func norm(a int, v ...impl.Rat) impl.Node {
	return impl.Node{Op: impl.OpNorm, A: a, V: v}
}

// someNodes are well formed over an input of 2 elements, one of each operator.
func someNodes() []impl.Node {
	return []impl.Node{
		dense(0, 1, nums("1 2 3")...), relu(0), leaky(0, rat(-1, 2)), add(0, 0), maxpool(0, 2), conv(0, 1, 1, nums("1 2")...), norm(0, nums("1 2 3 4")...),
	}
}

func TestP5DimensionsOfEachOperator(t *testing.T) {
	one := rat(1, 1)
	cases := []struct {
		in   int
		node impl.Node
		dim  int
	}{
		{1, dense(0, 1, nums("1 1")...), 1},
		{3, dense(0, 2, repeated(one, 8)...), 2},
		{2, dense(0, 5, repeated(one, 15)...), 5},
		{1, dense(0, impl.MaxDim, repeated(one, 2*impl.MaxDim)...), impl.MaxDim},
		{impl.MaxDim, dense(0, 1, repeated(one, impl.MaxDim+1)...), 1},
		{3, relu(0), 3},
		{impl.MaxDim, relu(0), impl.MaxDim},
		{3, leaky(0, rat(7, 2)), 3},
		{3, leaky(0, rat(0, 1)), 3},
		{3, add(0, 0), 3},
		{6, maxpool(0, 1), 6},
		{6, maxpool(0, 2), 3},
		{6, maxpool(0, 3), 2},
		{6, maxpool(0, 6), 1},
		{impl.MaxDim, maxpool(0, impl.MaxDim), 1},
		{5, conv(0, 1, 1, nums("1 1")...), 5},
		{5, conv(0, 2, 1, nums("1 1 1")...), 4},
		{5, conv(0, 2, 2, nums("1 1 1")...), 2},
		{5, conv(0, 3, 2, nums("1 1 1 1")...), 2},
		{5, conv(0, 2, 3, nums("1 1 1")...), 2},
		{5, conv(0, 2, 4, nums("1 1 1")...), 1},
		{5, conv(0, 5, 1, nums("1 1 1 1 1 1")...), 1},
		{5, conv(0, 1, 4, nums("1 1")...), 2},
		{5, conv(0, 1, 5, nums("1 1")...), 1},
		{5, conv(0, 1, impl.MaxDim, nums("1 1")...), 1},
		{impl.MaxDim, conv(0, impl.MaxDim, impl.MaxDim, repeated(one, impl.MaxDim+1)...), 1},
		{impl.MaxDim, conv(0, 1, impl.MaxDim-1, nums("1 1")...), 2},
		{3, norm(0, nums("0 0 -1/3 0")...), 3},
	}
	for _, c := range cases {
		wantDims(t, showGraph(graphOver(c.in, c.node)), graphOver(c.in, c.node), c.in, c.dim)
	}
}

func TestP5DimensionsOfChains(t *testing.T) {
	wantDims(t, "no nodes", graphOver(2), 2)
	wantDims(t, "every operator", wholeGraph(), 4, 2, 2, 2, 2, 1, 1, 1, 1)
	chain := graphOver(6, maxpool(0, 2), conv(0, 4, 1, nums("1 1 1 1 1")...), add(1, 2), add(3, 3), dense(4, 6, repeated(rat(0, 1), 24)...), add(5, 0))
	wantDims(t, "a chain", chain, 6, 3, 3, 3, 3, 6, 6)
	chain.Out = 0
	wantDims(t, "the input as the result", chain, 6, 3, 3, 3, 3, 6, 6)

	long := graphOver(1)
	for i := range impl.MaxNodes {
		long.Nodes = append(long.Nodes, relu(i))
	}
	long.Out = impl.MaxNodes
	wantDims(t, "the greatest number of nodes", long, repeated(1, impl.MaxNodes+1)...)
}

func TestP5Head(t *testing.T) {
	change := func(how func(g *impl.Graph)) impl.Graph {
		g := graphOver(2, relu(0))
		how(&g)
		return g
	}
	for _, in := range []int{0, -1, 1, 3, impl.MaxDim + 1, math.MaxInt, math.MinInt} {
		wantFailure(t, "In without its box", change(func(g *impl.Graph) { g.In = in }), 10, 0)
	}
	wantFailure(t, "In 0 with its box", graphOver(0), 10, 0)
	wantFailure(t, "In too great with its box", graphOver(impl.MaxDim+1), 10, 0)
	wantFailure(t, "nothing", impl.Graph{}, 10, 0)
	for _, rounds := range []int{-1, impl.MaxRounds + 1, math.MaxInt, math.MinInt} {
		wantFailure(t, "Rounds", change(func(g *impl.Graph) { g.Rounds = rounds }), 10, 0)
	}
	for _, rounds := range []int{0, 1, impl.MaxRounds} {
		wantDims(t, "Rounds", change(func(g *impl.Graph) { g.Rounds = rounds }), 2, 2)
	}
	wantFailure(t, "Lo short", change(func(g *impl.Graph) { g.Lo = g.Lo[:1] }), 10, 0)
	wantFailure(t, "Lo long", change(func(g *impl.Graph) { g.Lo = append(g.Lo, rat(0, 1)) }), 10, 0)
	wantFailure(t, "Lo nil", change(func(g *impl.Graph) { g.Lo = nil }), 10, 0)
	wantFailure(t, "Hi short", change(func(g *impl.Graph) { g.Hi = g.Hi[:1] }), 10, 0)
	wantFailure(t, "Hi long", change(func(g *impl.Graph) { g.Hi = append(g.Hi, rat(0, 1)) }), 10, 0)
	wantFailure(t, "Hi nil", change(func(g *impl.Graph) { g.Hi = nil }), 10, 0)
	for _, ill := range invalidRats() {
		for j := range 2 {
			wantFailure(t, "Lo not valid", change(func(g *impl.Graph) { g.Lo[j] = ill }), 10, 0)
			wantFailure(t, "Hi not valid", change(func(g *impl.Graph) { g.Hi[j] = ill }), 10, 0)
		}
	}
	wantFailure(t, "too many nodes", change(func(g *impl.Graph) { g.Nodes = repeated(relu(0), impl.MaxNodes+1) }), 10, 0)
	wantDims(t, "the widest input", graphOver(impl.MaxDim), impl.MaxDim)
}

func TestP5Box(t *testing.T) {
	boxed := func(lo string, hi string) impl.Graph {
		g := graphOver(3, relu(0))
		g.Lo, g.Hi = nums(lo), nums(hi)
		return g
	}
	wantDims(t, "points", boxed("1/3 0 -5", "1/3 0 -5"), 3, 3)
	wantDims(t, "narrow", boxed("-1/3 333333333/1000000000 0", "-333333333/1000000000 1/3 1/1000000000000000000000"), 3, 3)
	wantFailure(t, "side 0", boxed("1 0 0", "0 0 0"), 11, 0)
	wantFailure(t, "side 1", boxed("0 1/2 0", "0 1/3 0"), 11, 1)
	wantFailure(t, "side 2", boxed("0 0 -1/3", "0 0 -1/2"), 11, 2)
	wantFailure(t, "sides 1 and 2", boxed("0 1 1", "0 0 0"), 11, 1)
	wantFailure(t, "all sides", boxed("1 1 1", "0 0 0"), 11, 0)
	wantFailure(t, "side 0 and 2", boxed("1 1 1", "-1 1 -1"), 11, 0)

	wide := graphOver(impl.MaxDim)
	wide.Lo[impl.MaxDim-1] = rat(10, 1)
	wantFailure(t, "the last side", wide, 11, impl.MaxDim-1)
}

func TestP5OpsThatAreNone(t *testing.T) {
	for _, op := range []int{0, -1, 8, 9, 100, math.MaxInt, math.MinInt} {
		wantFailure(t, "Op", graphOver(2, impl.Node{Op: op}), 12, 1)
		wantFailure(t, "Op", graphOver(2, relu(0), impl.Node{Op: op, K: 1}), 12, 2)
	}
}

// used are the fields of each operator beside A.
func used(op int) (b bool, k bool, s bool, v bool) {
	switch op {
	case impl.OpDense:
		return false, true, false, true
	case impl.OpLeaky, impl.OpNorm:
		return false, false, false, true
	case impl.OpAdd:
		return true, false, false, false
	case impl.OpMaxPool:
		return false, true, false, false
	case impl.OpConv:
		return false, true, true, true
	}
	return false, false, false, false
}

func TestP5FieldsThatAreNotUsed(t *testing.T) {
	for _, node := range someNodes() {
		wantDims(t, "well formed", graphOver(2, node), 2, dimOf(node))
		b, k, s, v := used(node.Op)
		for _, value := range []int{1, -1, 2, 1000, math.MaxInt, math.MinInt} {
			if !b {
				n := node
				n.B = value
				wantFailure(t, "B", graphOver(2, relu(0), n), 12, 2)
			}
			if !k {
				n := node
				n.K = value
				wantFailure(t, "K", graphOver(2, relu(0), n), 12, 2)
			}
			if !s {
				n := node
				n.S = value
				wantFailure(t, "S", graphOver(2, relu(0), n), 12, 2)
			}
		}
		if !v {
			n := node
			n.V = nums("0")
			wantFailure(t, "V", graphOver(2, relu(0), n), 12, 2)
			n.V = []impl.Rat{}
			if _, code, _ := impl.CheckGraph(graphOver(2, n)); code != 0 {
				t.Errorf("an empty V that is not nil: code %d", code)
			}
		}
	}
}

// dimOf is the dimension of one of someNodes.
func dimOf(node impl.Node) int {
	if node.Op == impl.OpDense || node.Op == impl.OpMaxPool {
		return 1
	}
	return 2
}

func TestP5SizesThatAreUsed(t *testing.T) {
	for _, node := range someNodes() {
		_, k, s, _ := used(node.Op)
		for _, value := range []int{0, -1, impl.MaxDim + 1, math.MaxInt, math.MinInt} {
			if k {
				n := node
				n.K = value
				wantFailure(t, "K", graphOver(2, n), 12, 1)
			}
			if s {
				n := node
				n.S = value
				wantFailure(t, "S", graphOver(2, n), 12, 1)
			}
		}
		if k {
			n := node
			n.K = impl.MaxDim
			wantFailure(t, "K at its greatest is well formed", graphOver(2, n), 14, 1)
		}
	}
	for _, s := range []int{1, 2, impl.MaxDim} {
		wantDims(t, "S", graphOver(1, conv(0, 1, s, nums("1 1")...)), 1, 1)
	}
}

func TestP5NumsOfANode(t *testing.T) {
	for count := range 7 {
		v := repeated(rat(1, 1), count)
		if count != 1 {
			wantFailure(t, "leaky", graphOver(2, leaky(0, v...)), 12, 1)
		}
		if count != 4 {
			wantFailure(t, "norm", graphOver(2, norm(0, v...)), 12, 1)
		}
		if count != 3 {
			wantFailure(t, "dense", graphOver(2, dense(0, 1, v...)), 14, 1)
		}
		if count != 2 {
			wantFailure(t, "conv", graphOver(2, conv(0, 1, 1, v...)), 14, 1)
		}
	}
	for _, node := range someNodes() {
		for _, ill := range invalidRats() {
			for i := range node.V {
				n := node
				n.V = slices.Clone(node.V)
				n.V[i] = ill
				wantFailure(t, "V not valid", graphOver(2, n), 12, 1)
			}
		}
	}
}

func TestP5Sources(t *testing.T) {
	for at := range 4 {
		before := repeated(relu(0), at)
		for _, node := range someNodes() {
			for _, a := range []int{-1, at + 1, at + 2, 1000, math.MaxInt, math.MinInt} {
				n := node
				n.A = a
				wantFailure(t, "A", graphOver(2, append(slices.Clone(before), n)...), 13, at+1)
				if n.Op == impl.OpAdd {
					n.A, n.B = 0, a
					wantFailure(t, "B", graphOver(2, append(slices.Clone(before), n)...), 13, at+1)
				}
			}
			for a := range at + 1 {
				n := node
				n.A = a
				if _, code, _ := impl.CheckGraph(graphOver(2, append(slices.Clone(before), n)...)); code != 0 {
					t.Errorf("source %d of node %d: code %d", a, at+1, code)
				}
			}
		}
		wantDims(t, "add", graphOver(2, append(slices.Clone(before), add(at, at))...), repeated(2, at+2)...)
	}
}

func TestP5Shapes(t *testing.T) {
	one := rat(1, 1)
	for in := 1; in <= 7; in++ {
		for k := 1; k <= 8; k++ {
			for count := range 70 {
				_, code, at := impl.CheckGraph(graphOver(in, dense(0, k, repeated(one, count)...)))
				if fits := count == k*(in+1); fits != (code == 0) || !fits && (code != 14 || at != 1) {
					t.Errorf("dense %d over %d with %d nums: code %d at %d", k, in, count, code, at)
				}
			}
			for count := range 11 {
				_, code, at := impl.CheckGraph(graphOver(in, conv(0, k, 1, repeated(one, count)...)))
				if fits := k <= in && count == k+1; fits != (code == 0) || !fits && (code != 14 || at != 1) {
					t.Errorf("conv %d over %d with %d nums: code %d at %d", k, in, count, code, at)
				}
			}
			_, code, at := impl.CheckGraph(graphOver(in, maxpool(0, k)))
			if fits := in%k == 0; fits != (code == 0) || !fits && (code != 14 || at != 1) {
				t.Errorf("maxpool %d over %d: code %d at %d", k, in, code, at)
			}
			_, code, at = impl.CheckGraph(graphOver(in, dense(0, k, repeated(one, k*(in+1))...), add(0, 1)))
			if fits := in == k; fits != (code == 0) || !fits && (code != 14 || at != 2) {
				t.Errorf("add of %d and %d: code %d at %d", in, k, code, at)
			}
			_, code, at = impl.CheckGraph(graphOver(in, dense(0, k, repeated(one, k*(in+1))...), add(1, 0)))
			if fits := in == k; fits != (code == 0) || !fits && (code != 14 || at != 2) {
				t.Errorf("add of %d and %d: code %d at %d", k, in, code, at)
			}
		}
	}
}

// The shape of a node is judged by the dimension of its own source.
func TestP5ShapesBehindOtherNodes(t *testing.T) {
	wantFailure(t, "dense", graphOver(4, maxpool(0, 2), dense(1, 1, nums("1 1 1 1 1")...)), 14, 2)
	wantDims(t, "dense", graphOver(4, maxpool(0, 2), dense(1, 1, nums("1 1 1")...)), 4, 2, 1)
	wantFailure(t, "maxpool", graphOver(4, maxpool(0, 2), maxpool(1, 4)), 14, 2)
	wantDims(t, "maxpool", graphOver(4, maxpool(0, 2), maxpool(0, 4)), 4, 2, 1)
	wantFailure(t, "conv", graphOver(4, maxpool(0, 2), conv(1, 3, 1, nums("1 1 1 1")...)), 14, 2)
	wantDims(t, "conv", graphOver(4, maxpool(0, 2), conv(0, 3, 1, nums("1 1 1 1")...)), 4, 2, 2)
}

func TestP5NormByZero(t *testing.T) {
	wantFailure(t, "norm", graphOver(2, norm(0, nums("1 1 0 1")...)), 15, 1)
	wantFailure(t, "norm", graphOver(2, relu(0), relu(1), norm(1, nums("0 0 0 0")...)), 15, 3)
	wantDims(t, "zeros elsewhere", graphOver(2, norm(0, nums("0 0 1 0")...)), 2, 2)
	wantDims(t, "a divisor below zero", graphOver(2, norm(0, nums("1 1 -1/7 1")...)), 2, 2)
}

func TestP5Result(t *testing.T) {
	for count := range 4 {
		for _, out := range []int{-1, count + 1, count + 2, math.MaxInt, math.MinInt} {
			g := graphOver(2, repeated(relu(0), count)...)
			g.Out = out
			wantFailure(t, "Out", g, 16, 0)
		}
		for out := range count + 1 {
			g := graphOver(2, repeated(relu(0), count)...)
			g.Out = out
			wantDims(t, "Out", g, repeated(2, count+1)...)
		}
	}
}

// failures are nodes that fail with each code over an input of 2 elements, at any place behind the first.
func failures() []struct {
	code int
	node impl.Node
} {
	return []struct {
		code int
		node impl.Node
	}{
		{12, impl.Node{}},
		{12, impl.Node{Op: impl.OpRelu, S: 1}},
		{13, relu(-1)},
		{13, relu(2000)},
		{14, maxpool(0, 3)},
		{15, norm(0, nums("1 1 0 1")...)},
	}
}

func TestP5TheFirstNodeThatFails(t *testing.T) {
	for _, first := range failures() {
		for _, second := range failures() {
			wantFailure(t, "nodes 1 and 2", graphOver(2, first.node, second.node), first.code, 1)
			wantFailure(t, "nodes 2 and 4", graphOver(2, relu(0), first.node, relu(0), second.node), first.code, 2)
		}
	}
}

func TestP5TheFirstFailureAcrossParts(t *testing.T) {
	for _, f := range failures() {
		g := graphOver(2, relu(0), f.node)
		g.Out = 77
		wantFailure(t, "a node ahead of Out", g, f.code, 2)
		g.Lo[1] = rat(10, 1)
		wantFailure(t, "the box ahead of a node", g, 11, 1)
		g.Rounds = -1
		wantFailure(t, "the head ahead of the box", g, 10, 0)
	}
	g := graphOver(2, repeated(impl.Node{}, impl.MaxNodes+1)...)
	g.Lo[0] = rat(10, 1)
	wantFailure(t, "too many nodes ahead of the box", g, 10, 0)
	g = graphOver(2)
	g.Lo[0], g.Hi[1] = rat(10, 1), impl.Rat{}
	wantFailure(t, "a Rat that is not valid ahead of the box", g, 10, 0)
	g = graphOver(2)
	g.Lo[0], g.Out = rat(10, 1), -1
	wantFailure(t, "the box ahead of Out", g, 11, 0)
}

func TestP5TheFirstFailureWithinANode(t *testing.T) {
	ill := impl.Rat{}
	cases := []struct {
		what string
		node impl.Node
		code int
	}{
		{"form ahead of source", impl.Node{Op: impl.OpRelu, A: 9, K: 1}, 12},
		{"no Op ahead of source", impl.Node{Op: 8, A: -1}, 12},
		{"K ahead of source", maxpool(9, 0), 12},
		{"S ahead of source", conv(9, 1, 0, nums("1 1")...), 12},
		{"V ahead of source", leaky(9), 12},
		{"V of norm ahead of source", norm(9, nums("1 1 0")...), 12},
		{"a Rat ahead of source", dense(9, 1, ill), 12},
		{"form ahead of shape", impl.Node{Op: impl.OpMaxPool, K: 3, S: 1}, 12},
		{"K ahead of shape", maxpool(0, impl.MaxDim+1), 12},
		{"a Rat ahead of shape", dense(0, 1, ill), 12},
		{"a Rat of conv ahead of shape", conv(0, 3, 1, rat(1, 1), ill), 12},
		{"S ahead of shape", conv(0, 3, 0, nums("1 1")...), 12},
		{"B not used ahead of shape", impl.Node{Op: impl.OpDense, B: 1, K: 1}, 12},
		{"form ahead of a zero divisor", impl.Node{Op: impl.OpNorm, B: 1, V: nums("1 1 0 1")}, 12},
		{"a Rat ahead of a zero divisor", norm(0, rat(1, 1), ill, rat(0, 1), rat(1, 1)), 12},
		{"a divisor that is not valid", norm(0, rat(1, 1), rat(1, 1), impl.Rat{Num: []uint32{}, Den: []uint32{2}}, rat(1, 1)), 12},
		{"source ahead of shape", dense(9, 1), 13},
		{"source ahead of shape", conv(-1, 1, 1), 13},
		{"source ahead of shape", maxpool(9, 7), 13},
		{"source A of add", add(9, 0), 13},
		{"source B of add", add(0, 9), 13},
		{"both sources of add", add(-1, 9), 13},
		{"source ahead of a zero divisor", norm(9, nums("1 1 0 1")...), 13},
	}
	for _, c := range cases {
		wantFailure(t, c.what, graphOver(2, c.node), c.code, 1)
		wantFailure(t, c.what, graphOver(2, relu(0), c.node), c.code, 2)
	}
	wantFailure(t, "source ahead of shape in add", graphOver(2, maxpool(0, 2), add(1, 2)), 13, 2)
}

func TestP5ArgumentsStay(t *testing.T) {
	for _, g := range []impl.Graph{wholeGraph(), graphOver(2, someNodes()...), graphOver(2, norm(0, impl.Rat{Num: []uint32{2, 0}, Den: []uint32{0, 0}})), {}} {
		own := copyGraph(g)
		first, _, _ := impl.CheckGraph(own)
		again, _, _ := impl.CheckGraph(own)
		if graphSpoiled(own, g) {
			t.Errorf("%s was changed", showGraph(g))
		}
		if overlap([]stretch{stretchOf(first), stretchOf(again)}) {
			t.Errorf("%s: two answers share memory", showGraph(g))
		}
	}
}

// nodeCode is the code of a node by the document's list, asked one by one.
func nodeCode(n impl.Node, i int, dims []int) (int, int) {
	if n.Op < 1 || n.Op > 7 {
		return 0, 12
	}
	b, k, s, v := used(n.Op)
	ill := slices.ContainsFunc(n.V, func(r impl.Rat) bool { return !validByWords(r) })
	badSize := k && (n.K < 1 || n.K > 1000) || s && (n.S < 1 || n.S > 1000)
	badCount := n.Op == impl.OpLeaky && len(n.V) != 1 || n.Op == impl.OpNorm && len(n.V) != 4
	if !b && n.B != 0 || !k && n.K != 0 || !s && n.S != 0 || !v && len(n.V) != 0 || badSize || badCount || ill {
		return 0, 12
	}
	if n.A < 0 || n.A > i-1 || n.Op == impl.OpAdd && (n.B < 0 || n.B > i-1) {
		return 0, 13
	}
	size := dims[n.A]
	dim, fits := size, true
	switch n.Op {
	case impl.OpDense:
		dim, fits = n.K, len(n.V) == n.K*(size+1)
	case impl.OpAdd:
		fits = size == dims[n.B]
	case impl.OpMaxPool:
		dim, fits = size/n.K, size%n.K == 0
	case impl.OpConv:
		dim, fits = int(math.Floor(float64(size-n.K)/float64(n.S)))+1, n.K <= size && len(n.V) == n.K+1
	}
	if !fits {
		return 0, 14
	}
	if n.Op == impl.OpNorm && valueOf(n.V[2]).Sign() == 0 {
		return 0, 15
	}
	return dim, 0
}

// checkByWords is for graphs whose head and box are in order.
func checkByWords(g impl.Graph) ([]int, int, int) {
	dims := []int{g.In}
	for i, n := range g.Nodes {
		dim, code := nodeCode(n, i+1, dims)
		if code != 0 {
			return nil, code, i + 1
		}
		dims = append(dims, dim)
	}
	if g.Out < 0 || g.Out > len(g.Nodes) {
		return nil, 16, 0
	}
	return dims, 0, 0
}

// node is most often one that fits behind nodes of these dimensions.
func (d *draws) node(dims []int) impl.Node {
	n := impl.Node{Op: 1 + d.below(7), A: d.below(len(dims))}
	size := dims[n.A]
	count := 0
	switch n.Op {
	case impl.OpDense:
		n.K = 1 + d.below(4)
		count = n.K * (size + 1)
	case impl.OpLeaky:
		count = 1
	case impl.OpAdd:
		n.B = d.below(len(dims))
		for other, dim := range dims {
			if dim == size && d.below(2) == 0 {
				n.B = other
			}
		}
	case impl.OpMaxPool:
		n.K = 1 + d.below(size)
		for size%n.K != 0 && d.below(8) != 0 {
			n.K--
		}
	case impl.OpConv:
		n.K, n.S = 1+d.below(size), 1+d.below(4)
		count = n.K + 1
	case impl.OpNorm:
		count = 4
	}
	for range count {
		n.V = append(n.V, rat(int64(d.below(13))-6, int64(1+d.below(5))))
	}
	return n
}

// spoilNode changes one field of a node, or often none.
func (d *draws) spoilNode(n impl.Node) impl.Node {
	odd := []int{0, 1, 2, 3, -1, 1000, 1001, 8}
	value := odd[d.below(len(odd))]
	switch d.below(60) {
	case 0:
		n.Op = value
	case 1:
		n.A = value
	case 2:
		n.B = value
	case 3:
		n.K = value
	case 4:
		n.S = value
	case 5:
		n.V = append(slices.Clone(n.V), rat(1, 2))
	case 6:
		n.V = n.V[:len(n.V)/2]
	case 7:
		n.V = append(slices.Clone(n.V), impl.Rat{})
	}
	return n
}

func TestP5AgainstTheList(t *testing.T) {
	d := newDraws(12)
	seen := map[int]int{}
	for range 4000 {
		g := graphOver(1 + d.below(6))
		dims := []int{g.In}
		for range d.below(8) {
			n := d.node(dims)
			dim, code := nodeCode(n, len(dims), dims)
			if code != 0 {
				dim = 1
			}
			g.Nodes = append(g.Nodes, d.spoilNode(n))
			dims = append(dims, dim)
		}
		g.Out = d.below(len(g.Nodes)+2) - d.below(2)
		want, code, place := checkByWords(g)
		got, gotCode, gotPlace := impl.CheckGraph(g)
		if !slices.Equal(got, want) || gotCode != code || gotPlace != place {
			t.Errorf("%s: %v, code %d at %d; want %v, code %d at %d", showGraph(g), got, gotCode, gotPlace, want, code, place)
		}
		seen[code]++
	}
	for _, code := range []int{0, 12, 13, 14, 15, 16} {
		if seen[code] < 20 {
			t.Errorf("code %d came %d times: the draws ask too little", code, seen[code])
		}
	}
}
