package tests

import (
	"fmt"
	"math/big"
	"slices"
	"strings"
	"testing"
	"unsafe"

	"loop.example/s0015/impl"
)

// nums reads a list of numbers, with blanks between them.
func nums(text string) []impl.Rat {
	list := []impl.Rat{}
	for _, word := range strings.Fields(text) {
		value, ok := new(big.Rat).SetString(word)
		if !ok {
			panic("not a number: " + word)
		}
		list = append(list, ratOf(value))
	}
	return list
}

func numbersOf(list []impl.Rat) string {
	words := []string{}
	for _, r := range list {
		words = append(words, valueOf(r).RatString())
	}
	return strings.Join(words, " ")
}

func sameRats(a []impl.Rat, b []impl.Rat) bool {
	return slices.EqualFunc(a, b, sameRat)
}

func sameNode(a impl.Node, b impl.Node) bool {
	return a.Op == b.Op && a.A == b.A && a.B == b.B && a.K == b.K && a.S == b.S && sameRats(a.V, b.V)
}

func sameGraph(a impl.Graph, b impl.Graph) bool {
	return a.In == b.In && a.Rounds == b.Rounds && a.Out == b.Out && sameRats(a.Lo, b.Lo) && sameRats(a.Hi, b.Hi) &&
		slices.EqualFunc(a.Nodes, b.Nodes, sameNode)
}

func isNothing(g impl.Graph) bool {
	return sameGraph(g, impl.Graph{})
}

// withSpare is a copy of a list with one spare element behind it, so that appending in place is seen.
func withSpare[T any](list []T, element T) []T {
	held := append(slices.Clone(list), element)
	return held[:len(list)]
}

func copyRats(list []impl.Rat) []impl.Rat {
	own := []impl.Rat{}
	for _, r := range list {
		own = append(own, copyRat(r))
	}
	return withSpare(own, rat(77, 1))
}

func copyGraph(g impl.Graph) impl.Graph {
	nodes := []impl.Node{}
	for _, n := range g.Nodes {
		n.V = copyRats(n.V)
		nodes = append(nodes, n)
	}
	g.Lo, g.Hi = copyRats(g.Lo), copyRats(g.Hi)
	g.Nodes = withSpare(nodes, impl.Node{Op: 77})
	return g
}

func ratsSpoiled(list []impl.Rat, before []impl.Rat) bool {
	return len(list) != len(before) || !slices.EqualFunc(list, before, func(r impl.Rat, was impl.Rat) bool { return !ratSpoiled(r, was) }) ||
		!sameRat(list[:len(list)+1][len(list)], rat(77, 1))
}

// graphSpoiled says whether what copyGraph gave is no longer as it was.
func graphSpoiled(g impl.Graph, before impl.Graph) bool {
	if ratsSpoiled(g.Lo, before.Lo) || ratsSpoiled(g.Hi, before.Hi) || len(g.Nodes) != len(before.Nodes) {
		return true
	}
	for i, n := range g.Nodes {
		if ratsSpoiled(n.V, before.Nodes[i].V) {
			return true
		}
	}
	return !sameGraph(g, before) || g.Nodes[:len(g.Nodes)+1][len(g.Nodes)].Op != 77
}

// stretch is the memory that a list holds.
type stretch struct {
	from, to uintptr
}

func stretchOf[T any](list []T) stretch {
	var one T
	from := uintptr(unsafe.Pointer(unsafe.SliceData(list)))
	return stretch{from, from + uintptr(cap(list))*unsafe.Sizeof(one)}
}

func stretchesOfRats(list []impl.Rat) []stretch {
	held := []stretch{stretchOf(list)}
	for _, r := range list {
		held = append(held, stretchOf(r.Num), stretchOf(r.Den))
	}
	return held
}

func stretchesOfGraph(g impl.Graph) []stretch {
	held := append(stretchesOfRats(g.Lo), stretchesOfRats(g.Hi)...)
	held = append(held, stretchOf(g.Nodes))
	for _, n := range g.Nodes {
		held = append(held, stretchesOfRats(n.V)...)
	}
	return held
}

// overlap says whether two of the stretches have a byte in common.
func overlap(held []stretch) bool {
	held = slices.DeleteFunc(slices.Clone(held), func(s stretch) bool { return s.from == s.to })
	slices.SortFunc(held, func(a stretch, b stretch) int {
		if a.from < b.from {
			return -1
		}
		return 1
	})
	for i := 1; i < len(held); i++ {
		if held[i].from < held[i-1].to {
			return true
		}
	}
	return false
}

// read gives the graph of a text that has the form.
func read(t *testing.T, text string) impl.Graph {
	t.Helper()
	g, code, at := impl.ParseGraph(text)
	if code != 0 || at != 0 {
		t.Fatalf("%q: code %d at %d", text, code, at)
	}
	return g
}

// graphOver is a graph with the box -9 .. 9 for each of in elements, and its last node as the result.
func graphOver(in int, nodes ...impl.Node) impl.Graph {
	g := impl.Graph{In: in, Nodes: nodes, Out: len(nodes)}
	for range in {
		g.Lo = append(g.Lo, rat(-9, 1))
		g.Hi = append(g.Hi, rat(9, 1))
	}
	return g
}

// wholeGraph has every operator.
func wholeGraph() impl.Graph {
	return impl.Graph{
		In: 4, Rounds: 7, Lo: nums("-1 0 -1/2 3"), Hi: nums("1 0 7/3 1000000000000000000000"), Out: 8,
		Nodes: []impl.Node{
			{Op: impl.OpDense, A: 0, K: 2, V: nums("1 0 -1/2 3 5 -7 2/3 0 1 -12345678901234567890/7")},
			{Op: impl.OpRelu, A: 1},
			{Op: impl.OpLeaky, A: 1, V: nums("-3/2")},
			{Op: impl.OpAdd, A: 3, B: 2},
			{Op: impl.OpMaxPool, A: 4, K: 2},
			{Op: impl.OpConv, A: 0, K: 2, S: 3, V: nums("1/3 -1 4")},
			{Op: impl.OpNorm, A: 6, V: nums("2 1/2 -3 0")},
			{Op: impl.OpAdd, A: 5, B: 7},
		},
	}
}

const wholeText = "graph 4 7\n" +
	"box -1 1\n" +
	"box 0 0\n" +
	"box -1/2 7/3\n" +
	"box 3 1000000000000000000000\n" +
	"dense 0 2 1 0 -1/2 3 5 -7 2/3 0 1 -12345678901234567890/7\n" +
	"relu 1\n" +
	"leaky 1 -3/2\n" +
	"add 3 2\n" +
	"maxpool 4 2\n" +
	"conv 0 2 3 1/3 -1 4\n" +
	"norm 6 2 1/2 -3 0\n" +
	"add 5 7\n" +
	"output 8\n"

// showGraph is for messages.
func showGraph(g impl.Graph) string {
	out := fmt.Sprintf("graph %d %d [%d %d] out %d:", g.In, g.Rounds, len(g.Lo), len(g.Hi), g.Out)
	for _, n := range g.Nodes {
		out += fmt.Sprintf(" {op %d a %d b %d k %d s %d, %d nums}", n.Op, n.A, n.B, n.K, n.S, len(n.V))
	}
	return out
}
