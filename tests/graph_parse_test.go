package tests

import (
	"math/big"
	"regexp"
	"slices"
	"strconv"
	"strings"
	"testing"

	"loop.example/s0015/impl"
)

// wantGraph asks for a graph, read with code 0 and place 0.
func wantGraph(t *testing.T, text string, want impl.Graph) {
	t.Helper()
	g, code, at := impl.ParseGraph(text)
	if code != 0 || at != 0 || !sameGraph(g, want) {
		t.Errorf("%q: code %d at %d, %s; want %s", text, code, at, showGraph(g), showGraph(want))
	}
}

// wantWrongLine asks for code 2 at a line, with nothing as the graph.
func wantWrongLine(t *testing.T, text string, line int) {
	t.Helper()
	g, code, at := impl.ParseGraph(text)
	if code != 2 || at != line {
		t.Errorf("%.200q: code %d at %d, want code 2 at %d", text, code, at, line)
	}
	if !isNothing(g) {
		t.Errorf("%.200q: the graph is not nothing", text)
	}
}

func wantTooLong(t *testing.T, text string) {
	t.Helper()
	g, code, at := impl.ParseGraph(text)
	if code != 1 || at != 0 || !isNothing(g) {
		t.Errorf("%d bytes: code %d at %d, nothing: %v", len(text), code, at, isNothing(g))
	}
}

func TestP4EveryOperator(t *testing.T) {
	wantGraph(t, wholeText, wholeGraph())
	wantGraph(t, strings.TrimSuffix(wholeText, "\n"), wholeGraph())
}

// nodeText is a graph with one node line, which is line 3.
func nodeText(line string) string {
	return "graph 1 0\nbox 0 1\n" + line + "\noutput 1\n"
}

func TestP4NodeLines(t *testing.T) {
	cases := []struct {
		line string
		want impl.Node
	}{
		{"dense 0 1", impl.Node{Op: impl.OpDense, K: 1}},
		{"dense 3 2 5", impl.Node{Op: impl.OpDense, A: 3, K: 2, V: nums("5")}},
		{"dense 3 2 5 -1/3 6/4", impl.Node{Op: impl.OpDense, A: 3, K: 2, V: nums("5 -1/3 3/2")}},
		{"relu 9", impl.Node{Op: impl.OpRelu, A: 9}},
		{"leaky 9 -1/3", impl.Node{Op: impl.OpLeaky, A: 9, V: nums("-1/3")}},
		{"add 8 9", impl.Node{Op: impl.OpAdd, A: 8, B: 9}},
		{"maxpool 8 9", impl.Node{Op: impl.OpMaxPool, A: 8, K: 9}},
		{"conv 7 8 9", impl.Node{Op: impl.OpConv, A: 7, K: 8, S: 9}},
		{"conv 7 8 9 -0", impl.Node{Op: impl.OpConv, A: 7, K: 8, S: 9, V: nums("0")}},
		{"conv 7 8 9 1 2 3 4", impl.Node{Op: impl.OpConv, A: 7, K: 8, S: 9, V: nums("1 2 3 4")}},
		{"norm 7 1 2 3 4", impl.Node{Op: impl.OpNorm, A: 7, V: nums("1 2 3 4")}},
		{"norm 7 007 -2/4 0/9 9/3", impl.Node{Op: impl.OpNorm, A: 7, V: nums("7 -1/2 0 3")}},
	}
	for _, c := range cases {
		want := impl.Graph{In: 1, Lo: nums("0"), Hi: nums("1"), Nodes: []impl.Node{c.want}, Out: 1}
		wantGraph(t, nodeText(c.line), want)
	}
}

func TestP4BrokenNodeLines(t *testing.T) {
	lines := []string{
		"dense", "dense 0", "dense x 1 1", "dense 0 x 1", "dense 0 1/1 1", "dense 0 1 x", "dense 0 1 1 x", "dense 0 1 1 2 1/0", "dense -1 1 1 1",
		"relu", "relu 0 0", "relu x", "relu 1/1",
		"leaky", "leaky 0", "leaky 0 1 1", "leaky x 1", "leaky 0 x", "leaky 1/2 1",
		"add", "add 0", "add 0 0 0", "add x 0", "add 0 x",
		"maxpool", "maxpool 0", "maxpool 0 1 1", "maxpool x 1", "maxpool 0 x", "maxpool 0 -1",
		"conv", "conv 0", "conv 0 1", "conv x 1 1", "conv 0 x 1", "conv 0 1 x", "conv 0 1 -1 1", "conv 0 1 1 x", "conv 0 1 1 1 1/x", "conv 0 1 1/2 1",
		"norm", "norm 0", "norm 0 1 1 1", "norm 0 1 1 1 1 1", "norm x 1 1 1 1", "norm 0 x 1 1 1", "norm 0 1 x 1 1", "norm 0 1 1 x 1", "norm 0 1 1 1 x",
		"Relu 0", "RELU 0", "relu0", "rel 0", "relux 0", "max pool 0 1", "maxPool 0 1", "input 0", "sigmoid 0", "0", "0 relu", "2 0", ",relu 0",
		"graph 1 0", "graph 1 1", "box 0 1", "Output 1", "output", "output x", "output 1 1", "output -1", "output 1/1", "output 0000001", "output1", "#", "# relu 0", "-", "\x00",
	}
	for _, line := range lines {
		wantWrongLine(t, nodeText(line), 3)
		wantWrongLine(t, "graph 0 0\nrelu 0\n"+line+"\noutput 1\n", 3)
		wantWrongLine(t, nodeText("  "+line+" "), 3)
	}
}

func TestP4HeadLines(t *testing.T) {
	wantGraph(t, "graph 0 0\noutput 0", impl.Graph{})
	wantGraph(t, "graph 0 999999\noutput 999999", impl.Graph{Rounds: 999999, Out: 999999})
	wantGraph(t, "graph 000001 07\nbox 5 4\noutput 00", impl.Graph{In: 1, Rounds: 7, Lo: nums("5"), Hi: nums("4")})
	lines := []string{
		"graph", "graph 1", "graph 1 0 0", "graph x 0", "graph 1 x", "graph -1 0", "graph 1 -1", "graph 1/1 0", "graph 1 0/1", "graph +1 0",
		"graph 1000000 0", "graph 1 1000000", "Graph 1 0", "graph1 0", "graphs 1 0", "1 0", "net 1", "box 0 1", "relu 0", "output 0",
	}
	for _, line := range lines {
		wantWrongLine(t, line+"\nbox 0 1\noutput 0\n", 1)
		wantWrongLine(t, "\n \n"+line+"\nbox 0 1\noutput 0\n", 3)
	}
}

func TestP4BoxLines(t *testing.T) {
	want := impl.Graph{In: 2, Lo: nums("-1/2 3"), Hi: nums("7 -2")}
	wantGraph(t, "graph 2 0\nbox -2/4 007\nbox 3 -2\noutput 0", want)
	lines := []string{
		"box", "box 0", "box 0 1 2", "box x 1", "box 0 x", "box 1/0 1", "box 0 1/0", "box 0 +1", "box 0 1.5", "Box 0 1", "boxes 0 1", "0 1",
		"relu 0", "output 0", "graph 2 0",
	}
	for _, line := range lines {
		wantWrongLine(t, "graph 2 0\n"+line+"\nbox 0 1\noutput 0\n", 2)
		wantWrongLine(t, "graph 2 0\nbox 0 1\n"+line+"\noutput 0\n", 3)
	}
}

func TestP4NumberOfBoxLines(t *testing.T) {
	box := "box 0 1\n"
	for n := range 5 {
		for lines := range 7 {
			text := "graph " + strconv.Itoa(n) + " 0\n" + strings.Repeat(box, lines)
			if lines == n {
				if g := read(t, text+"output 0"); g.In != n || len(g.Lo) != n || len(g.Hi) != n {
					t.Errorf("%q: %s", text, showGraph(g))
				}
			} else {
				wantWrongLine(t, text+"output 0", 2+min(n, lines))
				wantWrongLine(t, text+"relu 0\noutput 0", 2+min(n, lines))
			}
			if lines <= n {
				wantWrongLine(t, strings.TrimSuffix(text, "\n"), 2+lines)
				wantWrongLine(t, text, 3+lines)
			}
		}
	}
	wantWrongLine(t, "graph 999999 0\nbox 0 1\noutput 0", 3)
	wantWrongLine(t, "graph 999999 0\nbox 0 1", 3)
}

func TestP4Ints(t *testing.T) {
	forms := []struct {
		before, behind string
		place          int
		pick           func(g impl.Graph) int
	}{
		{"graph 0 ", "\noutput 0", 1, func(g impl.Graph) int { return g.Rounds }},
		{"graph 0 0\noutput ", "", 2, func(g impl.Graph) int { return g.Out }},
		{"graph 0 0\nrelu ", "\noutput 0", 2, func(g impl.Graph) int { return g.Nodes[0].A }},
		{"graph 0 0\nleaky ", " 1\noutput 0", 2, func(g impl.Graph) int { return g.Nodes[0].A }},
		{"graph 0 0\nnorm ", " 1 2 3 4\noutput 0", 2, func(g impl.Graph) int { return g.Nodes[0].A }},
		{"graph 0 0\nadd ", " 5\noutput 0", 2, func(g impl.Graph) int { return g.Nodes[0].A }},
		{"graph 0 0\nadd 5 ", "\noutput 0", 2, func(g impl.Graph) int { return g.Nodes[0].B }},
		{"graph 0 0\nmaxpool ", " 5\noutput 0", 2, func(g impl.Graph) int { return g.Nodes[0].A }},
		{"graph 0 0\nmaxpool 5 ", "\noutput 0", 2, func(g impl.Graph) int { return g.Nodes[0].K }},
		{"graph 0 0\ndense ", " 5 1\noutput 0", 2, func(g impl.Graph) int { return g.Nodes[0].A }},
		{"graph 0 0\ndense 5 ", " 1\noutput 0", 2, func(g impl.Graph) int { return g.Nodes[0].K }},
		{"graph 0 0\nconv ", " 5 6 1\noutput 0", 2, func(g impl.Graph) int { return g.Nodes[0].A }},
		{"graph 0 0\nconv 5 ", " 6 1\noutput 0", 2, func(g impl.Graph) int { return g.Nodes[0].K }},
		{"graph 0 0\nconv 5 6 ", " 1\noutput 0", 2, func(g impl.Graph) int { return g.Nodes[0].S }},
	}
	good := []string{"0", "1", "9", "10", "000000", "000007", "07", "123456", "999999", "100000"}
	bad := []string{
		"0000000", "1234567", "0000001", "1000000", "99999999999999999999", "-1", "-0", "+1", "1/1", "1.0", "1e3", "0x1", "1_0", "a", "1a",
		"\t1", "1\t", "1\r", "\r", "\u0661", "\uff11", "\xff", "1\x00",
	}
	for _, f := range forms {
		for _, word := range good {
			want, _ := strconv.Atoi(word)
			if got := f.pick(read(t, f.before+word+f.behind)); got != want {
				t.Errorf("%q: got %d, want %d", f.before+word+f.behind, got, want)
			}
		}
		for _, word := range bad {
			wantWrongLine(t, f.before+word+f.behind, f.place)
		}
	}
}

func TestP4Nums(t *testing.T) {
	forms := []struct {
		before, behind string
		place          int
		pick           func(g impl.Graph) impl.Rat
	}{
		{"graph 1 0\nbox ", " 1\noutput 0", 2, func(g impl.Graph) impl.Rat { return g.Lo[0] }},
		{"graph 1 0\nbox 1 ", "\noutput 0", 2, func(g impl.Graph) impl.Rat { return g.Hi[0] }},
		{"graph 0 0\nleaky 0 ", "\noutput 0", 2, func(g impl.Graph) impl.Rat { return g.Nodes[0].V[0] }},
		{"graph 0 0\ndense 0 1 ", "\noutput 0", 2, func(g impl.Graph) impl.Rat { return g.Nodes[0].V[0] }},
		{"graph 0 0\ndense 0 1 1 2 ", " 3\noutput 0", 2, func(g impl.Graph) impl.Rat { return g.Nodes[0].V[2] }},
		{"graph 0 0\nconv 0 1 1 ", "\noutput 0", 2, func(g impl.Graph) impl.Rat { return g.Nodes[0].V[0] }},
		{"graph 0 0\nconv 0 1 1 1 ", " 3\noutput 0", 2, func(g impl.Graph) impl.Rat { return g.Nodes[0].V[1] }},
		{"graph 0 0\nnorm 0 ", " 1 2 3\noutput 0", 2, func(g impl.Graph) impl.Rat { return g.Nodes[0].V[0] }},
		{"graph 0 0\nnorm 0 1 ", " 2 3\noutput 0", 2, func(g impl.Graph) impl.Rat { return g.Nodes[0].V[1] }},
		{"graph 0 0\nnorm 0 1 2 ", " 3\noutput 0", 2, func(g impl.Graph) impl.Rat { return g.Nodes[0].V[2] }},
		{"graph 0 0\nnorm 0 1 2 3 ", "\noutput 0", 2, func(g impl.Graph) impl.Rat { return g.Nodes[0].V[3] }},
	}
	full := strings.Repeat("9", impl.MaxDigits)
	good := []string{"0", "-0", "7", "007", "-7", "2/4", "-6/4", "0/5", "1234567", "123456789012345678901234567890/7", full, "-1/" + full, full + "/" + full}
	bad := []string{
		"-", "+1", "1/0", "0/0", "-1/00", "1/", "/1", "1/-1", "1.5", "1e3", "a", "--1", "1//2", "\t1", "1\t", "1\r", "1/2/3",
		full + "9", "0" + full, "1/0" + full, "\u0661", "\xff",
	}
	for _, f := range forms {
		for _, word := range good {
			want, _ := new(big.Rat).SetString(word)
			if got := f.pick(read(t, f.before+word+f.behind)); !sameRat(got, ratOf(want)) {
				t.Errorf("%q: got %v", f.before+word+f.behind, got)
			}
		}
		for _, word := range bad {
			wantWrongLine(t, f.before+word+f.behind, f.place)
		}
	}
}

func TestP4BlanksBetweenWords(t *testing.T) {
	wide := strings.ReplaceAll(wholeText, " ", "   ")
	wide = strings.ReplaceAll(wide, "\n", "  \n    ")
	wantGraph(t, wide, wholeGraph())
	wantGraph(t, " "+wide+" ", wholeGraph())
}

// Bytes that other readers take for blanks are ordinary bytes of a word, and so spoil the line that they stand in.
func TestP4OrdinaryBytes(t *testing.T) {
	text := "graph 1 0\nbox 0 1\nrelu 0\noutput 1"
	for _, odd := range []string{"\t", "\r", "\v", "\f", "\x00", "\x1f", "\u00a0", "\u0085", "\u2003", "\u3000", "\x85", "\xa0", "\xff"} {
		for at := range len(text) + 1 {
			line := 1 + strings.Count(text[:at], "\n")
			wantWrongLine(t, text[:at]+odd+text[at:], line)
		}
		for i := range 5 {
			lines := slices.Insert(strings.Split(text, "\n"), i, odd)
			wantWrongLine(t, strings.Join(lines, "\n"), i+1)
			lines[i] = " " + odd + "  "
			wantWrongLine(t, strings.Join(lines, "\n"), i+1)
		}
		wantWrongLine(t, strings.ReplaceAll(text, " ", odd), 1)
	}
	wantWrongLine(t, strings.ReplaceAll(text, "\n", "\r\n"), 1)
	wantWrongLine(t, strings.ReplaceAll(text, "\n", "\r"), 1)
}

func TestP4BlankLinesArePassedOver(t *testing.T) {
	lines := strings.Split(wholeText, "\n")
	for i := range len(lines) + 1 {
		for _, blank := range []string{"", " ", "     "} {
			more := slices.Insert(slices.Clone(lines), i, blank)
			wantGraph(t, strings.Join(more, "\n"), wholeGraph())
			more = slices.Insert(more, 0, "  ", "")
			wantGraph(t, strings.Join(more, "\n"), wholeGraph())
		}
	}
	wantGraph(t, "\n \n\n"+strings.ReplaceAll(wholeText, "\n", "\n\n  \n"), wholeGraph())
}

func TestP4BlankLinesCount(t *testing.T) {
	lines := strings.Split(strings.TrimSuffix(wholeText, "\n"), "\n")
	for wrong := range lines {
		spoilt := slices.Clone(lines)
		spoilt[wrong] = "?"
		wantWrongLine(t, strings.Join(spoilt, "\n"), wrong+1)
		for i := range wrong + 1 {
			more := slices.Insert(slices.Clone(spoilt), i, "", "   ")
			wantWrongLine(t, strings.Join(more, "\n"), wrong+3)
		}
		for i := wrong + 1; i <= len(lines); i++ {
			more := slices.Insert(slices.Clone(spoilt), i, "", "   ")
			wantWrongLine(t, strings.Join(more, "\n"), wrong+1)
		}
	}
}

func TestP4TextsThatEndEarly(t *testing.T) {
	wantWrongLine(t, "", 2)
	wantWrongLine(t, " ", 2)
	wantWrongLine(t, "\n", 3)
	wantWrongLine(t, " \n\n   ", 4)
	lines := strings.Split(wholeText, "\n")
	for count := range len(lines) - 1 {
		if count == 0 {
			continue
		}
		text := strings.Join(lines[:count], "\n")
		wantWrongLine(t, text, count+1)
		wantWrongLine(t, text+"\n", count+2)
		wantWrongLine(t, text+"\n\n  \n", count+4)
		wantWrongLine(t, "\n\n"+text+"   ", count+3)
	}
}

func TestP4TheFirstOfTwoWrongLines(t *testing.T) {
	lines := strings.Split(strings.TrimSuffix(wholeText, "\n"), "\n")
	for first := range lines {
		for second := first + 1; second < len(lines); second++ {
			spoilt := slices.Clone(lines)
			spoilt[first], spoilt[second] = "relu x", "?"
			wantWrongLine(t, strings.Join(spoilt, "\n"), first+1)
			wantWrongLine(t, strings.Join(spoilt[:second], "\n"), first+1)
		}
	}
}

func TestP4LinesBehindTheOutput(t *testing.T) {
	for _, line := range []string{"output 0", "output 8", "relu 0", "box 0 1", "graph 4 7", "x", "0", "\t", "\r"} {
		wantWrongLine(t, wholeText+line, 15)
		wantWrongLine(t, wholeText+line+"\n", 15)
		wantWrongLine(t, wholeText+"\n  \n"+line, 17)
		wantWrongLine(t, wholeText+line+"\nrelu x\n", 15)
	}
	wantGraph(t, wholeText+"\n\n   \n ", wholeGraph())
}

func TestP4LengthOfTexts(t *testing.T) {
	for _, pad := range []string{" ", "\n"} {
		exact := wholeText + strings.Repeat(pad, impl.MaxText-len(wholeText))
		wantGraph(t, exact, wholeGraph())
		wantTooLong(t, exact+pad)
		wantTooLong(t, pad+exact)
		wantTooLong(t, exact+strings.Repeat(pad, 100000))
	}
	wantWrongLine(t, strings.Repeat(" ", impl.MaxText), 2)
	wantWrongLine(t, strings.Repeat("\n", impl.MaxText), impl.MaxText+2)
	wantWrongLine(t, strings.Repeat("?", impl.MaxText), 1)
	wantTooLong(t, strings.Repeat(" ", impl.MaxText+1))
	wantTooLong(t, strings.Repeat("\n", impl.MaxText+1))
	wantTooLong(t, strings.Repeat("?", impl.MaxText+1))
	// Bytes count, not letters.
	wantWrongLine(t, strings.Repeat("\u00e9", impl.MaxText/2), 1)
	wantTooLong(t, strings.Repeat("\u00e9", impl.MaxText/2)+" ")
}

func TestP4GraphsWithoutSense(t *testing.T) {
	text := "graph 1 999999\nbox 2 -2\ndense 5 0\ndense 0 999999 1\nrelu 999999\nleaky 3 0\nadd 1 999999\nmaxpool 0 0\nmaxpool 0 7\n" +
		"conv 0 0 0\nconv 0 999999 999999 1 1 1\nnorm 99 1 1 0 1\noutput 999999\n"
	want := impl.Graph{In: 1, Rounds: 999999, Lo: nums("2"), Hi: nums("-2"), Out: 999999, Nodes: []impl.Node{
		{Op: impl.OpDense, A: 5},
		{Op: impl.OpDense, K: 999999, V: nums("1")},
		{Op: impl.OpRelu, A: 999999},
		{Op: impl.OpLeaky, A: 3, V: nums("0")},
		{Op: impl.OpAdd, A: 1, B: 999999},
		{Op: impl.OpMaxPool},
		{Op: impl.OpMaxPool, K: 7},
		{Op: impl.OpConv},
		{Op: impl.OpConv, K: 999999, S: 999999, V: nums("1 1 1")},
		{Op: impl.OpNorm, A: 99, V: nums("1 1 0 1")},
	}}
	wantGraph(t, text, want)

	many := read(t, "graph 0 0\n"+strings.Repeat("relu 0\n", impl.MaxNodes+500)+"output 3")
	if len(many.Nodes) != impl.MaxNodes+500 || many.Out != 3 {
		t.Errorf("many nodes: %d of them", len(many.Nodes))
	}
	wide := read(t, "graph 1001 0\n"+strings.Repeat("box 0 1\n", 1001)+"output 0")
	if wide.In != 1001 || len(wide.Lo) != 1001 || len(wide.Hi) != 1001 {
		t.Errorf("a wide input: %d %d %d", wide.In, len(wide.Lo), len(wide.Hi))
	}
}

func TestP4AnswersAreNew(t *testing.T) {
	first, again := read(t, wholeText), read(t, wholeText)
	if overlap(append(stretchesOfGraph(first), stretchesOfGraph(again)...)) {
		t.Errorf("lists of answers share memory")
	}
	zeros := read(t, "graph 2 0\nbox 0 0\nbox 1 1\ndense 0 1 0 0 1 1 2/2 0/7\noutput 0")
	if overlap(stretchesOfGraph(zeros)) {
		t.Errorf("lists of an answer share memory")
	}
}

// The lines of a text by patterns, as the document writes them.
const (
	intPattern = `([0-9]{1,6})`
	numPattern = `-?[0-9]{1,400}(?:/0{0,399}[1-9][0-9]{0,399})?`
)

func linePattern(words ...string) *regexp.Regexp {
	return regexp.MustCompile(`^ *` + strings.Join(words, ` +`) + `(?: +` + numPattern + `)*? *$`)
}

func exactPattern(words ...string) *regexp.Regexp {
	return regexp.MustCompile(`^ *` + strings.Join(words, ` +`) + ` *$`)
}

type linePatterns struct {
	head, box, output *regexp.Regexp
	nodes             []*regexp.Regexp
}

func newLinePatterns() linePatterns {
	return linePatterns{
		head:   exactPattern("graph", intPattern, intPattern),
		box:    exactPattern("box", numPattern, numPattern),
		output: exactPattern("output", intPattern),
		nodes: []*regexp.Regexp{
			linePattern("dense", intPattern, intPattern),
			exactPattern("relu", intPattern),
			exactPattern("leaky", intPattern, numPattern),
			exactPattern("add", intPattern, intPattern),
			exactPattern("maxpool", intPattern, intPattern),
			linePattern("conv", intPattern, intPattern, intPattern),
			exactPattern("norm", intPattern, numPattern, numPattern, numPattern, numPattern),
		},
	}
}

// wrongLine is 0 for a text that has the form.
func (p linePatterns) wrongLine(text string) int {
	lines := strings.Split(text, "\n")
	part, boxes := "head", 0
	for i, line := range lines {
		if strings.Trim(line, " ") == "" {
			continue
		}
		switch {
		case part == "head" && p.head.MatchString(line):
			boxes, _ = strconv.Atoi(p.head.FindStringSubmatch(line)[1])
			part = "body"
		case part == "body" && boxes > 0 && p.box.MatchString(line):
			boxes--
		case part == "body" && boxes == 0 && p.output.MatchString(line):
			part = "end"
		case part == "body" && boxes == 0 && slices.ContainsFunc(p.nodes, func(n *regexp.Regexp) bool { return n.MatchString(line) }):
		default:
			return i + 1
		}
	}
	if part != "end" {
		return len(lines) + 1
	}
	return 0
}

// spoil changes a text in one place.
func (d *draws) spoil(text string) string {
	odd := []string{" ", "\n", "0", "1", "7", "/", "-", "\t", "\r", "x", "/0", " 0", " 1", "\n\n", "\nrelu 0\n", "\nbox 0 1\n", "+", "  ", " \n "}
	at := d.below(len(text) + 1)
	switch d.below(4) {
	case 0:
		return text[:at] + odd[d.below(len(odd))] + text[at:]
	case 1:
		end := min(len(text), at+1+d.below(4))
		return text[:at] + text[end:]
	case 2:
		end := min(len(text), at+1)
		return text[:at] + odd[d.below(len(odd))] + text[end:]
	}
	lines := strings.Split(text, "\n")
	i, j := d.below(len(lines)), d.below(len(lines))
	lines[i], lines[j] = lines[j], lines[i]
	return strings.Join(lines, "\n")
}

func TestP4AgainstPatterns(t *testing.T) {
	patterns := newLinePatterns()
	d := newDraws(11)
	short := "graph 1 0\nbox 0 1\nrelu 0\nadd 1 0\nmaxpool 2 1\nleaky 0 1/2\noutput 2\n"
	accepted := 0
	for i := range 6000 {
		text := []string{short, wholeText}[i%2]
		for range 1 + d.below(3) {
			text = d.spoil(text)
		}
		g, code, at := impl.ParseGraph(text)
		want := patterns.wrongLine(text)
		if at != want || (code == 2) != (want != 0) || code == 1 {
			t.Errorf("%q: code %d at %d, want place %d", text, code, at, want)
		}
		if code != 0 && !isNothing(g) {
			t.Errorf("%q: the graph is not nothing", text)
		}
		if code == 0 {
			accepted++
		}
	}
	if accepted < 500 || accepted > 5500 {
		t.Errorf("%d of 6000 texts had the form: the draws ask too little", accepted)
	}
}
