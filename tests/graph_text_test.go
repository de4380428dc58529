package tests

import (
	"math/big"
	"strings"
	"testing"

	"loop.example/s0015/impl"
)

// wantReadBack asks that the text of a graph is read as the same graph.
func wantReadBack(t *testing.T, g impl.Graph) {
	t.Helper()
	text := impl.GraphText(g)
	again, code, at := impl.ParseGraph(text)
	if code != 0 || at != 0 || !sameGraph(again, g) {
		t.Errorf("%s: %.300q is read with code %d at %d", showGraph(g), text, code, at)
	}
	if twice := impl.GraphText(again); twice != text {
		t.Errorf("%.300q is written again as %.300q", text, twice)
	}
}

func TestP6EveryOperator(t *testing.T) {
	if got := impl.GraphText(wholeGraph()); got != wholeText {
		t.Errorf("got %q, want %q", got, wholeText)
	}
	wantReadBack(t, wholeGraph())
}

func TestP6TextsByteByByte(t *testing.T) {
	cases := []struct {
		g    impl.Graph
		want string
	}{
		{graphOver(1), "graph 1 0\nbox -9 9\noutput 0\n"},
		{graphOver(2, relu(0)), "graph 2 0\nbox -9 9\nbox -9 9\nrelu 0\noutput 1\n"},
		{graphOver(1, dense(0, 2, nums("0 -1 1/2 -7/3")...)), "graph 1 0\nbox -9 9\ndense 0 2 0 -1 1/2 -7/3\noutput 1\n"},
		{graphOver(1, leaky(0, rat(0, 1))), "graph 1 0\nbox -9 9\nleaky 0 0\noutput 1\n"},
		{graphOver(1, relu(0), add(1, 0)), "graph 1 0\nbox -9 9\nrelu 0\nadd 1 0\noutput 2\n"},
		{graphOver(1, relu(0), add(0, 1)), "graph 1 0\nbox -9 9\nrelu 0\nadd 0 1\noutput 2\n"},
		{graphOver(2, maxpool(0, 2)), "graph 2 0\nbox -9 9\nbox -9 9\nmaxpool 0 2\noutput 1\n"},
		{graphOver(2, conv(0, 1, 1000, nums("5 -5")...)), "graph 2 0\nbox -9 9\nbox -9 9\nconv 0 1 1000 5 -5\noutput 1\n"},
		{graphOver(2, conv(0, 2, 1, nums("5 -5 0")...)), "graph 2 0\nbox -9 9\nbox -9 9\nconv 0 2 1 5 -5 0\noutput 1\n"},
		{graphOver(1, norm(0, nums("1 2 3 4")...)), "graph 1 0\nbox -9 9\nnorm 0 1 2 3 4\noutput 1\n"},
		{impl.Graph{In: 1, Rounds: 1000, Lo: nums("-10/3"), Hi: nums("0")}, "graph 1 1000\nbox -10/3 0\noutput 0\n"},
	}
	for _, c := range cases {
		if got := impl.GraphText(c.g); got != c.want {
			t.Errorf("got %q, want %q", got, c.want)
		}
		wantReadBack(t, c.g)
	}
}

func TestP6TextsThatWereReadAreLaidOut(t *testing.T) {
	text := "\n\n   graph   0001 007 \n\n  box  -2/4   010/5  \nmaxpool 000000 01\n   \nnorm 1 -0 4/6 02 0/9\noutput 002  "
	want := "graph 1 7\nbox -1/2 2\nmaxpool 0 1\nnorm 1 0 2/3 2 0\noutput 2\n"
	if got := impl.GraphText(read(t, text)); got != want {
		t.Errorf("got %q, want %q", got, want)
	}
}

func TestP6GraphsThatAreNotValid(t *testing.T) {
	change := func(how func(g *impl.Graph)) impl.Graph {
		g := graphOver(2, relu(0))
		how(&g)
		return g
	}
	graphs := []impl.Graph{
		{},
		graphOver(0),
		graphOver(impl.MaxDim + 1),
		graphOver(1, repeated(relu(0), impl.MaxNodes+1)...),
		change(func(g *impl.Graph) { g.Rounds = -1 }),
		change(func(g *impl.Graph) { g.Lo[1] = rat(10, 1) }),
		change(func(g *impl.Graph) { g.Lo[1] = impl.Rat{} }),
		change(func(g *impl.Graph) { g.Hi = nil }),
		change(func(g *impl.Graph) { g.Nodes[0].Op = 0 }),
		change(func(g *impl.Graph) { g.Nodes[0].B = 1 }),
		change(func(g *impl.Graph) { g.Nodes[0].A = 1 }),
		change(func(g *impl.Graph) { g.Out = 2 }),
		change(func(g *impl.Graph) { g.Out = -1 }),
	}
	for _, f := range failures() {
		graphs = append(graphs, graphOver(2, f.node), graphOver(2, relu(0), f.node))
	}
	for _, g := range graphs {
		if got := impl.GraphText(g); got != "" {
			t.Errorf("%s: %.200q", showGraph(g), got)
		}
	}
}

func TestP6GraphsAtTheirGreatest(t *testing.T) {
	wantReadBack(t, graphOver(impl.MaxDim, maxpool(0, impl.MaxDim)))
	wantReadBack(t, graphOver(1, repeated(add(0, 0), impl.MaxNodes)...))
	g := graphOver(1, conv(0, 1, impl.MaxDim, nums("1 1")...))
	g.Rounds = impl.MaxRounds
	wantReadBack(t, g)
}

// The text is not limited; only the reader is.
func TestP6TextsThatAreTooLongToBeRead(t *testing.T) {
	long := graphOver(1, dense(0, impl.MaxDim, repeated(rat(-1234567, 8), 2*impl.MaxDim)...), maxpool(1, impl.MaxDim))
	want := "graph 1 0\nbox -9 9\ndense 0 1000" + strings.Repeat(" -1234567/8", 2*impl.MaxDim) + "\nmaxpool 1 1000\noutput 2\n"
	if len(want) <= impl.MaxText+1 {
		t.Fatalf("the text has only %d bytes", len(want))
	}
	text := impl.GraphText(long)
	if text != want {
		t.Errorf("the text of %d bytes is not the one of %d", len(text), len(want))
	}
	wantTooLong(t, text)

	digits := new(big.Rat).SetInt(new(big.Int).Exp(big.NewInt(10), big.NewInt(impl.MaxDigits), nil))
	wide := graphOver(1, leaky(0, ratOf(digits)))
	if got := impl.GraphText(wide); got != "graph 1 0\nbox -9 9\nleaky 0 1"+strings.Repeat("0", impl.MaxDigits)+"\noutput 1\n" {
		t.Errorf("got %.200q", got)
	}
	wantWrongLine(t, impl.GraphText(wide), 3)
	wide.Nodes[0].V[0] = ratOf(digits.Sub(digits, big.NewRat(1, 1)))
	wantReadBack(t, wide)
}

// A text of exactly MaxText bytes is still read back.
func TestP6TextsAtTheLimit(t *testing.T) {
	for _, extra := range []int{0, 1} {
		g := graphOver(1, dense(0, impl.MaxDim/2, repeated(rat(1, 1), impl.MaxDim)...))
		v := g.Nodes[0].V
		for missing := impl.MaxText + extra - len(impl.GraphText(g)); missing > 0; {
			more := min(missing, impl.MaxDigits-1)
			v[0], v = ratOf(new(big.Rat).SetInt(new(big.Int).Exp(big.NewInt(10), big.NewInt(int64(more)), nil))), v[1:]
			missing -= more
		}
		text := impl.GraphText(g)
		if len(text) != impl.MaxText+extra {
			t.Fatalf("the text has %d bytes", len(text))
		}
		if extra == 0 {
			wantReadBack(t, g)
		} else {
			wantTooLong(t, text)
		}
	}
}

func TestP6DrawnGraphs(t *testing.T) {
	d := newDraws(13)
	for range 500 {
		g := d.graph(8)
		wantReadBack(t, g)
		text := impl.GraphText(g)
		if strings.Contains(text, "  ") || strings.Contains(text, " \n") || strings.Contains(text, "\n ") || strings.Contains(text, "\n\n") {
			t.Errorf("%q has blanks or blank lines that should not be there", text)
		}
		if lines := strings.Count(text, "\n"); lines != 2+g.In+len(g.Nodes) || !strings.HasSuffix(text, "\n") {
			t.Errorf("%q has %d lines", text, lines)
		}
	}
}

func TestP6ArgumentsStay(t *testing.T) {
	for _, g := range []impl.Graph{wholeGraph(), graphOver(2, someNodes()...), {}} {
		own := copyGraph(g)
		first := impl.GraphText(own)
		if graphSpoiled(own, g) || impl.GraphText(own) != first {
			t.Errorf("%s was changed", showGraph(g))
		}
	}
}
