package tests

import (
	"fmt"
	"slices"
	"strings"
	"testing"

	"loop.example/s0015/impl"
)

// flawed is the text of a graph over two elements, with lines of nodes that a test spoils.
func flawed(head string, box string, nodes string, output string) string {
	return head + "\n" + box + "\n" + nodes + output + "\n"
}

const goodHead, goodBox, goodOutput = "graph 2 3", "box 0 1\nbox -1 1", "output 1"

func TestP15EachCodeByItself(t *testing.T) {
	good := flawed(goodHead, goodBox, "relu 0\n", goodOutput)
	if r := impl.Compile(good); r.Code != 0 {
		t.Fatalf("got %s", showResult(r))
	}
	wantCompileCode(t, paddedTo(good, impl.MaxText+1, "\n"), 1, 0)
	wantCompileCode(t, "", 2, 2)
	wantCompileCode(t, "\n\n", 2, 4)
	wantCompileCode(t, flawed("graph 2", goodBox, "relu 0\n", goodOutput), 2, 1)
	wantCompileCode(t, flawed(goodHead, "box 0 1", "relu 0\n", goodOutput), 2, 3)
	wantCompileCode(t, flawed(goodHead, goodBox, "relu 0\n\nsoftmax 1\n", goodOutput), 2, 6)
	wantCompileCode(t, flawed(goodHead, goodBox, "relu 0\n", ""), 2, 7)
	wantCompileCode(t, good+"\noutput 0", 2, 7)
	wantCompileCode(t, "graph 0 3\noutput 0", 10, 0)
	wantCompileCode(t, flawed("graph 2 1001", goodBox, "relu 0\n", goodOutput), 10, 0)
	wantCompileCode(t, "graph 1001 0\n"+strings.Repeat("box 0 1\n", 1001)+"output 0", 10, 0)
	wantCompileCode(t, flawed(goodHead, goodBox, strings.Repeat("relu 0\n", 1001), goodOutput), 10, 0)
	wantCompileCode(t, flawed(goodHead, "box 1 0\nbox -1 1", "relu 0\n", goodOutput), 11, 0)
	wantCompileCode(t, flawed(goodHead, "box 0 1\nbox 1/3 333333333333/1000000000000", "relu 0\n", goodOutput), 11, 1)
	wantCompileCode(t, flawed(goodHead, goodBox, "relu 0\nmaxpool 0 0\n", goodOutput), 12, 2)
	wantCompileCode(t, flawed(goodHead, goodBox, "relu 0\nadd 0 2\n", goodOutput), 13, 2)
	wantCompileCode(t, flawed(goodHead, goodBox, "relu 1\n", goodOutput), 13, 1)
	wantCompileCode(t, flawed(goodHead, goodBox, "relu 0\ndense 1 1 1 1\n", goodOutput), 14, 2)
	wantCompileCode(t, flawed(goodHead, goodBox, "relu 0\nrelu 1\nnorm 1 1 1 0 1\n", goodOutput), 15, 3)
	wantCompileCode(t, flawed(goodHead, goodBox, "relu 0\n", "output 2"), 16, 0)
	wantCompileCode(t, "graph 141 0\n"+strings.Repeat("box 0 1\n", 141)+"output 0", 17, 0)
	wantCompileCode(t, "graph 1 0\nbox 1 2\n"+longNorm(0, 200)+longNorm(1, 200)+"output 2", 18, 0)
}

// longNorm is a line that multiplies by ten to a power.
func longNorm(a int, power int) string {
	return fmt.Sprintf("norm %d 1%s 0 1 0\n", a, strings.Repeat("0", power))
}

// Each fault stands in a part of its own, so any of them may come together.
func TestP15TheFirstOfSeveralFaults(t *testing.T) {
	type fault struct {
		code, at          int
		head, box, output string
		nodes             string
	}
	faults := []fault{
		{code: 2, at: 1, head: "graph 2 x"},
		{code: 10, head: "graph 2 1001"},
		{code: 11, at: 1, box: "box 0 1\nbox 3 2"},
		{code: 12, at: 2, nodes: "relu 0\nmaxpool 9 0\nmaxpool 9 0\n"},
		{code: 13, at: 2, nodes: "relu 0\nconv 2 1 1\nmaxpool 9 0\n"},
		{code: 14, at: 2, nodes: "relu 0\nconv 0 3 1 1\nrelu 9\nmaxpool 9 0\n"},
		{code: 15, at: 2, nodes: "relu 0\nnorm 0 1 1 0 1\nconv 0 3 1 1\n"},
		{code: 16, output: "output 1000"},
	}
	pick := func(changed string, other string, good string) string {
		if changed != "" {
			return changed
		}
		if other != "" {
			return other
		}
		return good
	}
	for i, first := range faults {
		for _, second := range faults[i:] {
			text := flawed(pick(first.head, second.head, goodHead), pick(first.box, second.box, goodBox),
				pick(first.nodes, second.nodes, "relu 0\n"), pick(first.output, second.output, goodOutput))
			wantCompileCode(t, text, first.code, first.at)
			wantCompileCode(t, paddedTo(text, impl.MaxText+1, " "), 1, 0)
			if first.code != 2 {
				wantCompileCode(t, text+"?", 2, strings.Count(text, "\n")+1)
			}
		}
	}
}

func TestP15FaultsOfGreatGraphs(t *testing.T) {
	wide := "graph 150 5\n" + strings.Repeat("box 0 1\n", 150)
	wantCompileCode(t, wide+"output 0", 17, 0)
	wantCompileCode(t, wide+"relu 0\noutput 2", 16, 0)
	wantCompileCode(t, wide+"relu 1\noutput 0", 13, 1)
	// Its numbers would be too long as well.
	wantCompileCode(t, wide+longNorm(0, 200)+longNorm(1, 200)+"output 2", 17, 0)
	// What is not needed does not count: the result is one number.
	narrow := wide + "conv 0 150 1" + strings.Repeat(" 1", 151) + "\nrelu 0\noutput 1"
	wantCompiled(t, narrow, impl.Result{Text: "net 1\nmap 1 150\n" + strings.Repeat("1 ", 150) + "1\n"})
}

func TestP15CellsAtTheLimit(t *testing.T) {
	summing := func(in int, k int) string {
		return fmt.Sprintf("graph %d 0\n%sconv 0 %d 1%s\noutput 1\n", in, strings.Repeat("box 0 1\n", in), k, strings.Repeat(" 1", k+1))
	}
	if r := impl.Compile(summing(199, 100)); r.Code != 0 || !strings.HasPrefix(r.Text, "net 1\nmap 100 199\n") {
		t.Errorf("exactly as many cells as there may be: %s", showResult(r))
	}
	// 113 rows of 177 cells are one too many.
	wantCompileCode(t, summing(176, 64), 17, 0)
}

// Of two factors and one divisor, so that both runs of a number are asked for.
func TestP15DigitsAtTheLimit(t *testing.T) {
	ten := func(power int) string { return "1" + strings.Repeat("0", power) }
	pair := func(first string, second string) string {
		return "graph 1 0\nbox 1 2\nnorm 0 " + first + "\nnorm 1 " + second + "\noutput 2\n"
	}
	text := func(w string, b string) impl.Result {
		return impl.Result{Text: "net 1\nmap 1 1\n" + w + " " + b + "\n"}
	}
	wantCompiled(t, pair(ten(200)+" 0 1 0", ten(199)+" 0 1 0"), text(ten(399), "0"))
	wantCompileCode(t, pair(ten(200)+" 0 1 0", ten(200)+" 0 1 0"), 18, 0)
	wantCompiled(t, pair("-"+ten(200)+" 0 1 0", ten(199)+" 0 1 0"), text("-"+ten(399), "0"))
	wantCompileCode(t, pair("-"+ten(200)+" 0 1 0", ten(200)+" 0 1 0"), 18, 0)
	wantCompiled(t, pair("1 0 "+ten(200)+" 0", "-1 0 "+ten(199)+" 0"), text("-1/"+ten(399), "0"))
	wantCompileCode(t, pair("1 0 "+ten(200)+" 0", "-1 0 "+ten(200)+" 0"), 18, 0)
	wantCompiled(t, pair(ten(200)+" 0 3 0", ten(199)+" 0 7 0"), text(ten(399)+"/21", "0"))
	wantCompiled(t, pair("0 0 1 "+ten(200), ten(199)+" 0 1 0"), text("0", ten(399)))
	wantCompileCode(t, pair("0 0 1 "+ten(200), ten(200)+" 0 1 0"), 18, 0)
	wantCompileCode(t, pair("0 0 1 1/"+ten(200), "1 0 "+ten(200)+" 0"), 18, 0)
	// The digits of the number in lowest terms count, not those on the way.
	wantCompiled(t, pair(ten(399)+" 0 1 0", ten(399)+" 0 "+ten(399)+" 0"), text(ten(399), "0"))
}

// longNet is a graph whose net's text has a number of bytes.
func longNet(t *testing.T, size int) impl.Graph {
	t.Helper()
	v := append(repeated(tenTo(37), 20), rat(0, 1))
	g := graphOver(120, conv(0, 20, 1, v...), relu(1), dense(2, 1, append(repeated(rat(100, 1), 101), rat(1, 1))...))
	short := len(impl.NetText(lowered(t, g)))
	g.Nodes[2].V[101] = tenTo(size - short)
	if got := len(impl.NetText(lowered(t, g))); got != size || size-short >= impl.MaxDigits {
		t.Fatalf("%d bytes, want %d", got, size)
	}
	return g
}

func TestP15TextsAtTheLimit(t *testing.T) {
	exact, beyond := longNet(t, impl.MaxNetText), longNet(t, impl.MaxNetText+1)
	wantCompiled(t, impl.GraphText(exact), impl.Result{Text: impl.NetText(lowered(t, exact))})
	wantCompileCode(t, impl.GraphText(beyond), 18, 0)
	exact.Rounds, beyond.Rounds = 1000, 1000
	wantCompiled(t, impl.GraphText(exact), impl.Result{Text: impl.NetText(lowered(t, exact))})
	wantCompileCode(t, impl.GraphText(beyond), 18, 0)
}

// It is the text behind the rounds that counts.
func TestP15TextsBehindRounds(t *testing.T) {
	shrinking := func(rounds string) string {
		return "graph 1 " + rounds + "\nbox 1 2\nnorm 0 -1" + strings.Repeat("0", 200) + " 0 1 0\n" + longNorm(1, 200) + "relu 2\noutput 3\n"
	}
	wantCompileCode(t, shrinking("0"), 18, 0)
	wantCompiled(t, shrinking("1"), impl.Result{Text: "net 2\nmap 0 1\nmap 1 0\n0\n", Rounds: 1})
	growing := func(rounds string) string {
		return "graph 1 " + rounds + "\nbox 1 2\n" + longNorm(0, 200) + "relu 1\n" + longNorm(2, 200) + "output 3\n"
	}
	long := "1" + strings.Repeat("0", 200)
	wantCompiled(t, growing("0"), impl.Result{Text: "net 2\nmap 1 1\n" + long + " 0\nmap 1 1\n" + long + " 0\n", Capped: true})
	wantCompileCode(t, growing("1"), 18, 0)
	wantCompileCode(t, growing("9"), 18, 0)
	// A text that is too long by its length, and short enough when it is joined.
	joining := longNet(t, impl.MaxNetText+1)
	for j := range joining.Lo {
		joining.Lo[j] = rat(0, 1)
	}
	wantCompileCode(t, impl.GraphText(joining), 18, 0)
	joining.Rounds = 1
	if r := impl.Compile(impl.GraphText(joining)); r.Code != 0 || r.Rounds != 1 || r.Capped || !strings.HasPrefix(r.Text, "net 1\nmap 1 120\n") {
		t.Errorf("joined: %s", showResult(r))
	}
}

func TestP15RoundsAndCapped(t *testing.T) {
	texts := []string{
		"net 3\nmap 2 1\n1 0\n2 1\nmap 2 2\n1 0 0\n0 1 -1/1000\nmap 1 2\n0 1 7\n",
		"net 3\nmap 2 1\n1 0\n2 1\nmap 1 2\n0 1 -1/1000\nmap 1 1\n1 7\n",
		"net 3\nmap 1 1\n2 1\nmap 1 1\n1 -1/1000\nmap 1 1\n1 7\n",
	}
	for rounds, want := range []impl.Result{
		{Text: texts[0], Rounds: 0, Capped: true},
		{Text: texts[1], Rounds: 1, Capped: true},
		{Text: texts[2], Rounds: 2, Capped: false},
		{Text: texts[2], Rounds: 2, Capped: false},
	} {
		wantCompiled(t, impl.GraphText(peeling(2, rounds)), want)
	}
	wantCompiled(t, impl.GraphText(peeling(2, impl.MaxRounds)), impl.Result{Text: texts[2], Rounds: 2})
	for _, count := range []int{1, 3, 8, 30} {
		for rounds := range count + 3 {
			r, n := compiled(t, peeling(count, rounds))
			done := min(rounds, count)
			if r.Rounds != done || r.Capped != (rounds < count) || neuronsIn(n) != 2*count-done {
				t.Errorf("%d rounds of %d: %s", rounds, count, showResult(r))
			}
		}
	}
}

func TestP15ManyRounds(t *testing.T) {
	for _, rounds := range []int{249, 250, impl.MaxRounds} {
		r, n := compiled(t, peeling(250, rounds))
		done := min(rounds, 250)
		if r.Rounds != done || r.Capped != (rounds < 250) || neuronsIn(n) != 500-done {
			t.Errorf("%d rounds: %s", rounds, showResult(r))
		}
	}
}

func TestP15NoMoreNeuronsAndCells(t *testing.T) {
	d := newDraws(71)
	fewer := 0
	for range 400 {
		g := d.compilable()
		r, n := compiled(t, g)
		low := lowered(t, g)
		if neuronsIn(n) > neuronsIn(low) || cellsIn(n) > cellsIn(low) || !impl.NetOk(n) {
			t.Errorf("%s: from %d neurons and %d cells to %d and %d", showGraph(g), neuronsIn(low), cellsIn(low), neuronsIn(n), cellsIn(n))
		}
		if r.Rounds == 0 && !sameNet(n, low) || r.Rounds > g.Rounds || r.Rounds > 0 && neuronsIn(n) == neuronsIn(low) && len(n.Maps) == len(low.Maps) {
			t.Errorf("%s: %s", showGraph(g), showResult(r))
		}
		if cellsIn(n) < cellsIn(low) {
			fewer++
		}
	}
	if fewer < 100 {
		t.Errorf("%d nets with fewer cells: the draws ask too little", fewer)
	}
}

func TestP15AgainstTheWords(t *testing.T) {
	patterns := newLinePatterns()
	d := newDraws(72)
	for range 700 {
		text := impl.GraphText(d.compilable())
		want := compileByWords(patterns, text)
		if want.Code != 0 {
			t.Fatalf("%q: by the words %s", text, showResult(want))
		}
		wantCompiled(t, text, want)
	}
}

// misnumber puts another number in the place of a word.
func (d *draws) misnumber(text string) string {
	others := []string{"0", "1", "2", "3", "9", "1000", "1001", "999999", "-1", "1/2"}
	lines := strings.Split(text, "\n")
	i := d.below(len(lines))
	words := strings.Split(lines[i], " ")
	words[d.below(len(words))] = others[d.below(len(others))]
	lines[i] = strings.Join(words, " ")
	return strings.Join(lines, "\n")
}

func TestP15SpoiledTexts(t *testing.T) {
	patterns := newLinePatterns()
	d := newDraws(73)
	seen := map[int]int{}
	for i := range 6000 {
		text := wholeText
		if i%2 == 0 {
			text = impl.GraphText(d.compilable())
		}
		for range 1 + d.below(3) {
			if d.below(2) == 0 {
				text = d.spoil(text)
			} else {
				text = d.misnumber(text)
			}
		}
		// Spoiling may have made a graph that the words would take long for.
		if g, code, _ := impl.ParseGraph(text); code == 0 && (g.In > 12 || len(g.Nodes) > 40) {
			continue
		}
		want := compileByWords(patterns, text)
		wantCompiled(t, text, want)
		if (want.Text != "") != (want.Code == 0) {
			t.Errorf("%q: by the words %s", text, showResult(want))
		}
		seen[want.Code]++
	}
	for _, code := range []int{0, 2, 10, 11, 12, 13, 14, 16} {
		if seen[code] < 10 {
			t.Errorf("code %d came %d times: the draws ask too little", code, seen[code])
		}
	}
}

func TestP15TextsOfAnyBytes(t *testing.T) {
	for _, text := range []string{
		"\x00", "\xff\xfe", "graph", "graph 1", "graph 1 1 1", "graph\t1 1", "graph 999999 999999", "graph 1 0\r\nbox 0 1\r\noutput 0\r\n", "net 1\nmap 0 0\n", carriedText,
		"\ufeffgraph 1 0\nbox 0 1\noutput 0", "graph 1 0 box 0 1 output 0", "Graph 1 0\nbox 0 1\noutput 0", "graph 1 0\nbox 0 1\noutput -1", "graph 1 0\nbox 1/0 1\noutput 0",
		strings.Repeat("\n", impl.MaxText), strings.Repeat(" ", impl.MaxText), strings.Repeat("9", impl.MaxText), strings.Repeat("graph 1 0\n", 2000),
	} {
		if r := impl.Compile(text); r.Code != 2 || r.At == 0 || r != (impl.Result{Code: 2, At: r.At}) {
			t.Errorf("%.60q: %s", text, showResult(r))
		}
	}
	for _, text := range []string{strings.Repeat("\n", impl.MaxText+1), strings.Repeat("\u00e9", impl.MaxText/2) + "?", strings.Repeat("9", 10*impl.MaxText)} {
		wantCompileCode(t, text, 1, 0)
	}
	every := []byte{}
	for b := range 256 {
		every = append(every, byte(b))
	}
	for at := range every {
		if r := impl.Compile(string(slices.Concat(every[at:], every[:at]))); r.Code != 2 {
			t.Errorf("bytes from %d: %s", at, showResult(r))
		}
	}
}
