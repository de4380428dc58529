package tests

import (
	"strings"
	"sync"
	"testing"

	"loop.example/s0015/impl"
)

const carriedText = "net 2\nmap 3 1\n1 0\n-1 0\n1 0\nmap 1 3\n1 -1 1 0\n"

// carrying is the document's example with another head and box.
func carrying(rounds string, box string) string {
	return "graph 1 " + rounds + "\nbox " + box + "\nrelu 0\nadd 1 0\noutput 2\n"
}

func TestP13TheExample(t *testing.T) {
	wantCompiled(t, carrying("0", "-1 1"), impl.Result{Text: carriedText})
	wantCompiled(t, carrying("1", "-1 1"), impl.Result{Text: carriedText})
	wantCompiled(t, carrying("1000", "-1 1"), impl.Result{Text: carriedText})
	wantCompiled(t, carrying("0", "0 1"), impl.Result{Text: carriedText, Capped: true})
	wantCompiled(t, carrying("1", "0 1"), impl.Result{Text: "net 1\nmap 1 1\n2 0\n", Rounds: 1})
	wantCompiled(t, carrying("1", "-1/2 0"), impl.Result{Text: "net 1\nmap 1 1\n1 0\n", Rounds: 1})
	wantCompiled(t, carrying("7", "0 0"), impl.Result{Text: "net 2\nmap 0 1\nmap 1 0\n0\n", Rounds: 1})
}

func TestP13GraphsWithoutSteps(t *testing.T) {
	for _, rounds := range []int{0, 1, 1000} {
		wantCompiled(t, impl.GraphText(boxed(graphOver(2), "0 0", "1 1", rounds)), impl.Result{Text: "net 1\nmap 2 2\n1 0 0\n0 1 0\n"})
		wantCompiled(t, impl.GraphText(boxed(graphOver(1, norm(0, nums("0 5 7 1/3")...)), "0", "1", rounds)), impl.Result{Text: "net 1\nmap 1 1\n0 1/3\n"})
	}
	g := boxed(graphOver(2, relu(0), add(1, 0)), "0 0", "1 1", 5)
	g.Out = 0
	wantCompiled(t, impl.GraphText(g), impl.Result{Text: "net 1\nmap 2 2\n1 0 0\n0 1 0\n"})
}

// Blanks and blank lines, zeros in front and fractions that are not in lowest terms are of no weight.
func TestP13TextsThatSayTheSame(t *testing.T) {
	plain := "graph 1 2\nbox -1/2 3\nleaky 0 1/3\nnorm 1 2 1 3 0\noutput 2\n"
	want := impl.Compile(plain)
	if want.Code != 0 || want.Text == "" {
		t.Fatalf("got %s", showResult(want))
	}
	wantCompiled(t, "\n \n  graph  001 000002 \n\n box -4/8   009/3\nleaky 00 2/6\n\nnorm 1 2 1 3 -0\n   output    02", want)
	wantCompiled(t, paddedTo(plain, impl.MaxText, " "), want)
	wantCompiled(t, paddedTo(plain, impl.MaxText, "\n"), want)
}

// everyKind has graphs over 4 elements, so that each kind of node has steps or nodes around it.
func everyKind() []impl.Graph {
	return []impl.Graph{
		graphOver(4),
		graphOver(4, dense(0, 2, nums("1 -1 2 0 3 0 1/2 0 -5 -1/3")...)),
		graphOver(4, relu(0)),
		graphOver(4, leaky(0, rat(1, 4))),
		graphOver(4, leaky(0, rat(-3, 2))),
		graphOver(4, leaky(0, rat(5, 2))),
		graphOver(4, add(0, 0), relu(1), add(2, 0)),
		graphOver(4, maxpool(0, 1), relu(1)),
		graphOver(4, maxpool(0, 2)),
		graphOver(4, maxpool(0, 4)),
		graphOver(4, dense(0, 3, nums("1 0 0 -1 1 0 2 0 0 -1 0 0 -1 1 1/2")...), maxpool(1, 3), relu(2)),
		graphOver(4, conv(0, 2, 1, nums("1 -2 1/2")...), relu(1), conv(2, 2, 1, nums("-1 1 0")...)),
		graphOver(4, conv(0, 3, 2, nums("1 1 1 -1")...), leaky(1, rat(0, 1))),
		graphOver(4, norm(0, nums("2 1 -3 1/2")...), relu(1), norm(2, nums("-1 0 1/5 0")...)),
		wholeGraph(),
	}
}

// boxes are some for 4 elements.
func boxes() [][2]string {
	return [][2]string{
		{"-1 -1 -1 -1", "1 1 1 1"},
		{"0 1 1/2 2", "3 3 3 3"},
		{"-3 -3 -3 -3", "0 -1 -1/2 -2"},
		{"-2 0 -1/3 1", "-1 2 1/3 4"},
		{"1/2 -1/2 0 7", "1/2 -1/2 0 7"},
		{"0 0 0 0", "0 0 0 0"},
	}
}

func TestP13EveryKindOfNodeInItsBox(t *testing.T) {
	for _, kind := range everyKind() {
		for _, box := range boxes() {
			for _, rounds := range []int{0, 1, 2, 1000} {
				g := boxed(kind, box[0], box[1], rounds)
				_, n := compiled(t, g)
				for _, x := range lattice(g.Lo, g.Hi) {
					wantSameResults(t, g, n, x)
				}
			}
		}
	}
}

func TestP13NoRoundsOutsideTheBox(t *testing.T) {
	for _, kind := range everyKind() {
		for _, box := range boxes() {
			g := boxed(kind, box[0], box[1], 0)
			r, n := compiled(t, g)
			if low := lowered(t, g); r.Rounds != 0 || !sameNet(n, low) || r.Text != impl.NetText(low) {
				t.Errorf("%s: %s", showGraph(g), showResult(r))
			}
			for _, x := range []string{"10 -10 10 -10", "-9 -9 -9 -9", "9 8 7 100", "-1/7 5 -1000000 1/3"} {
				wantSameResults(t, g, n, nums(x))
			}
		}
	}
}

// A net that was made for a box need not fit outside it; this is what the box is for.
func TestP13TheBoxIsUsed(t *testing.T) {
	_, n := compiled(t, boxed(graphOver(1, relu(0)), "1", "2", 1))
	if got, ok := impl.EvalNet(n, nums("-5")); !ok || numbersOf(got) != "-5" {
		t.Errorf("outside the box: %s", numbersOf(got))
	}
}

func TestP13DrawnGraphs(t *testing.T) {
	d := newDraws(61)
	byRounds := map[int]int{}
	for range 600 {
		g := d.compilable()
		r, n := compiled(t, g)
		byRounds[min(r.Rounds, 3)]++
		for range 4 {
			wantSameResults(t, g, n, d.inBox(g.Lo, g.Hi))
		}
		if g.Rounds == 0 {
			wantSameResults(t, g, n, d.smalls(g.In))
			wantSameResults(t, g, n, d.smalls(g.In))
		}
	}
	if byRounds[0] < 150 || byRounds[1] < 100 || byRounds[2] < 10 || byRounds[3] < 3 {
		t.Errorf("graphs by rounds %v: the draws ask too little", byRounds)
	}
}

// The way of a user: a text is compiled, and what comes out is run.
func TestP13CompiledTextsRun(t *testing.T) {
	d := newDraws(62)
	for range 200 {
		g := d.compilable()
		r, _ := compiled(t, g)
		x := d.inBox(g.Lo, g.Hi)
		out, code := impl.Run(r.Text, numbersOf(x))
		if want := numbersOf(evalByTable(g, x)); code != 0 || out != want {
			t.Errorf("%s at %s: %q, code %d, want %q", showGraph(g), numbersOf(x), out, code, want)
		}
	}
}

func TestP13GreatGraphs(t *testing.T) {
	row := "graph 1 1000\nbox 0 1\n" + strings.Repeat("add 0 0\n", impl.MaxNodes) + "output 1000\n"
	wantCompiled(t, row, impl.Result{Text: "net 1\nmap 1 1\n2 0\n"})
	ones, zeros := strings.Repeat("1 ", 90), strings.Repeat("0 ", 90)
	for _, rounds := range []int{0, 1} {
		g := boxed(graphOver(90, relu(0), conv(1, 2, 1, nums("1 -1/2 3")...)), zeros, ones, rounds)
		r, n := compiled(t, g)
		if r.Rounds != rounds || r.Capped != (rounds == 0) || len(n.Maps) != 2-rounds {
			t.Errorf("%d rounds: %s", rounds, showResult(r))
		}
		wantSameResults(t, g, n, repeated(rat(1, 3), 90))
		wantSameResults(t, g, n, g.Hi)
	}
}

func TestP13TheSameAnswerEveryTime(t *testing.T) {
	d := newDraws(63)
	graphs := []impl.Graph{}
	for range 12 {
		graphs = append(graphs, d.compilable())
	}
	calls := sync.WaitGroup{}
	for _, g := range graphs {
		text := impl.GraphText(g)
		want := impl.Compile(text)
		for range 4 {
			calls.Go(func() { wantCompiled(t, text, want) })
		}
	}
	calls.Wait()
}

func TestP14GraphsByHand(t *testing.T) {
	graphs := []impl.Graph{
		peeling(1, 1000), peeling(2, 1000), peeling(7, 1000), peeling(7, 7),
		// A constant becomes fixed behind the constant before it.
		boxed(graphOver(1, dense(0, 2, nums("0 3 2 1")...), relu(1), dense(2, 2, nums("2 0 1 0 5 -1")...), relu(3), dense(4, 1, nums("10 1 7")...)), "-1", "1", 1000),
		// Nothing is left of the layer, and yet the net in two maps has fewer cells.
		boxed(graphOver(1, norm(0, nums("-1 0 1 -1")...), relu(1), dense(2, 2, nums("1 1 2 2")...)), "0", "1", 1000),
		// An open layer of one neuron between many inputs and many results.
		boxed(graphOver(9, conv(0, 9, 1, repeated(rat(1, 1), 10)...), relu(1), dense(2, 5, repeated(rat(1, 1), 10)...)), strings.Repeat("0 ", 9), strings.Repeat("1 ", 9), 1000),
	}
	for _, kind := range everyKind() {
		for _, box := range boxes() {
			graphs = append(graphs, boxed(kind, box[0], box[1], 1000))
		}
	}
	for _, g := range graphs {
		r, n := compiled(t, g)
		if r.Capped {
			t.Errorf("%s: %s", showGraph(g), showResult(r))
		}
		wantSettled(t, g, n)
	}
}

// An open layer that is dear to join stays, and its net is not capped.
func TestP14OpenLayersThatStay(t *testing.T) {
	gone := boxed(graphOver(1, norm(0, nums("-1 0 1 -1")...), relu(1), dense(2, 2, nums("1 1 2 2")...)), "0", "1", 1000)
	wantCompiled(t, impl.GraphText(gone), impl.Result{Text: "net 2\nmap 0 1\nmap 2 0\n1\n2\n", Rounds: 1})
	narrow := boxed(graphOver(4, conv(0, 4, 1, nums("1 1 1 1 0")...), relu(1), dense(2, 2, nums("1 0 -1 0")...)), "0 0 0 0", "1 1 1 1", 1000)
	wantCompiled(t, impl.GraphText(narrow), impl.Result{Text: "net 2\nmap 1 4\n1 1 1 1 0\nmap 2 1\n1 0\n-1 0\n"})
	// With one input less joining takes no more cells.
	joins := boxed(graphOver(3, conv(0, 3, 1, nums("1 1 1 0")...), relu(1), dense(2, 2, nums("1 0 -1 0")...)), "0 0 0", "1 1 1", 1000)
	wantCompiled(t, impl.GraphText(joins), impl.Result{Text: "net 1\nmap 2 3\n1 1 1 0\n-1 -1 -1 0\n", Rounds: 1})
}

func TestP14DrawnGraphs(t *testing.T) {
	d := newDraws(64)
	settled, several, capped := 0, 0, 0
	for range 1500 {
		g := d.compilable()
		r, n := compiled(t, g)
		if r.Capped {
			capped++
			continue
		}
		wantSettled(t, g, n)
		settled++
		if r.Rounds > 1 {
			several++
		}
	}
	if settled < 800 || several < 60 || capped < 100 {
		t.Errorf("%d settled, %d of them by several rounds, %d capped: the draws ask too little", settled, several, capped)
	}
}
