package tests

import (
	"math/big"
	"strings"
	"sync"
	"testing"

	"loop.example/s0015/impl"
)

func wantRun(t *testing.T, net string, input string, want string) {
	t.Helper()
	if out, code := impl.Run(net, input); code != 0 || out != want {
		t.Errorf("%.200q at %.200q: %.200q, code %d, want %.200q", net, input, out, code, want)
	}
}

func wantRunCode(t *testing.T, net string, input string, want int) {
	t.Helper()
	if out, code := impl.Run(net, input); code != want || out != "" {
		t.Errorf("%.200q at %.200q: %.200q, code %d, want code %d", net, input, out, code, want)
	}
}

const (
	oneText = "net 1\nmap 1 1\n2 1/2\n"
	twoText = "net 1\nmap 2 2\n1 1 0\n1 -1 1/2\n"
)

func TestP16ResultsByHand(t *testing.T) {
	cases := []struct{ net, input, want string }{
		{oneText, "0", "1/2"},
		{oneText, "-1/4", "0"},
		{oneText, "-0", "1/2"},
		{oneText, "-3", "-11/2"},
		{oneText, "-6/4", "-5/2"},
		{oneText, "007", "29/2"},
		{oneText, "1/3", "7/6"},
		{twoText, "1 2", "3 -1/2"},
		{twoText, "-1/2 -1/2", "-1 1/2"},
		{carriedText, "-2", "-2"},
		{carriedText, "3/2", "3"},
		{carriedText, "0", "0"},
		{"net 3\nmap 1 1\n1 0\nmap 1 1\n-1 1\nmap 1 1\n-1/3 0\n", "1/4", "-1/4"},
		{"net 3\nmap 1 1\n1 0\nmap 1 1\n-1 1\nmap 1 1\n-1/3 0\n", "-7", "-1/3"},
		{"net 3\nmap 1 1\n1 0\nmap 1 1\n-1 1\nmap 1 1\n-1/3 0\n", "7", "0"},
		{"net 1\nmap 3 1\n1 0\n0 0\n-1 0\n", "5", "5 0 -5"},
		// Blanks and blank lines of the net's text are of no weight.
		{"\n  net  01 \n\n map 1  1\n 4/2   2/4", "1", "5/2"},
	}
	for _, c := range cases {
		wantRun(t, c.net, c.input, c.want)
	}
}

func TestP16NetsWithoutColumnsOrRows(t *testing.T) {
	none := "net 1\nmap 0 0\n"
	for _, input := range []string{"", " ", "\n", "\n \n\n  "} {
		wantRun(t, none, input, "")
		wantRun(t, "net 1\nmap 2 0\n-1/2\n3\n", input, "-1/2 3")
		wantRun(t, "net 2\nmap 1 0\n-1\nmap 1 1\n1 7\n", input, "7")
	}
	for _, input := range []string{"0", "1 2", "x", "\t", "/"} {
		wantRunCode(t, none, input, 4)
		wantRunCode(t, "net 1\nmap 2 0\n-1/2\n3\n", input, 4)
	}
	wantRun(t, "net 1\nmap 0 2\n", "1 2", "")
	wantRunCode(t, "net 1\nmap 0 2\n", "", 4)
	wantRunCode(t, "net 1\nmap 0 2\n", "1 x", 4)
	wantRun(t, "net 2\nmap 0 1\nmap 2 0\n-3\n1/7\n", "5", "-3 1/7")
	wantRun(t, "net 2\nmap 1 1\n1 1\nmap 0 1\n", "5", "")
	wantRun(t, "net 1\nmap 0 10000\n", strings.Repeat("1 ", 10000), "")
	wantRunCode(t, "net 1\nmap 0 10000\n", strings.Repeat("1 ", 9999), 4)
	// As many words as the columns ask for do not fit any input.
	wantRunCode(t, "net 1\nmap 0 20000\n", strings.Repeat("1 ", 10000), 4)
}

func TestP16MarksBetweenWords(t *testing.T) {
	for _, input := range []string{
		"1 2", "1\n2", " 1 2", "1 2 ", "\n1\n2\n", "1   2", "1\n\n\n2", "1 \n 2", "1\n \n2", " \n 1 \n\n  2 \n ", "\n\n\n1 2", "1 2\n\n\n", strings.Repeat(" \n", 5000) + "1 2",
	} {
		wantRun(t, twoText, input, "3 -1/2")
	}
	for _, odd := range []string{"\t", "\r", "\v", "\f", "\x00", "\x1f", "\u00a0", "\u0085", "\u2003", "\u2028", "\u3000", "\x85", "\xa0", "\xff", ",", ";", "_"} {
		for _, input := range []string{"1" + odd + "2", "1 " + odd + " 2", odd + "1 2", "1 2" + odd, "1" + odd + " 2", "1 " + odd + "2", odd + " 1 2", "1 2 " + odd, "1 2\n" + odd, "1" + odd + "2 3"} {
			wantRunCode(t, twoText, input, 4)
		}
	}
	wantRunCode(t, twoText, "1\r\n2", 4)
	wantRunCode(t, twoText, "1 2\r\n", 4)
}

func TestP16NumbersOfWords(t *testing.T) {
	for cols := range 6 {
		net := "net 1\nmap 1 " + string(rune('0'+cols)) + "\n" + strings.Repeat("1 ", cols) + "1/2\n"
		sums := []string{"1/2", "7/2", "13/2", "19/2", "25/2", "31/2"}
		for words := range 8 {
			if words == cols {
				wantRun(t, net, strings.Repeat("3 ", words), sums[cols])
			} else {
				wantRunCode(t, net, strings.Repeat("3 ", words), 4)
			}
		}
	}
	// It is the first map that counts.
	wide := "net 2\nmap 3 1\n1 0\n1 0\n1 0\nmap 2 3\n1 1 1 0\n1 0 0 0\n"
	wantRun(t, wide, "2", "6 2")
	wantRunCode(t, wide, "1 2", 4)
	wantRunCode(t, wide, "1 2 3", 4)
}

func TestP16WordsThatAreNoNums(t *testing.T) {
	full := strings.Repeat("9", impl.MaxDigits)
	for _, word := range []string{
		"x", "-", "+1", "1/0", "0/0", "-1/00", "1/", "/1", "1/-1", "1.5", "1e3", "--1", "1//2", "1/2/3", "0x1", "1_0", "\u0661", "\uff11", "-/1", "1-", "inf", "nan", "map", "net",
		full + "9", "0" + full, "1/0" + full, "-0" + full, "1/" + full + "1",
	} {
		wantRunCode(t, oneText, word, 4)
		wantRunCode(t, twoText, "1 "+word, 4)
		wantRunCode(t, twoText, word+" 1", 4)
		wantRunCode(t, twoText, word, 4)
		wantRunCode(t, twoText, "1 2 "+word, 4)
	}
	same := "net 1\nmap 1 1\n1 0\n"
	for _, word := range []string{full, "-" + full, "1/" + full, "-1/" + full} {
		wantRun(t, same, word, word)
	}
	wantRun(t, same, full+"/"+full, "1")
	wantRun(t, same, strings.Repeat("0", impl.MaxDigits-1)+"5/"+strings.Repeat("0", impl.MaxDigits-2)+"15", "1/3")
}

// The result has no limit on its digits.
func TestP16LongResults(t *testing.T) {
	full := strings.Repeat("9", impl.MaxDigits)
	square := strings.Repeat("9", impl.MaxDigits-1) + "8" + strings.Repeat("0", impl.MaxDigits-1) + "1"
	wantRun(t, "net 1\nmap 1 1\n"+full+" 0\n", full, square)
	wantRun(t, "net 1\nmap 1 1\n-1/"+full+" 0\n", "1/"+full, "-1/"+square)
}

// A chain of fractions, each as long as it may be: what they share with each other is little, and must not be searched
// for all along the result.
func TestP16ChainsOfLongNumbers(t *testing.T) {
	d := newDraws(82)
	n := impl.Net{}
	for range 58 {
		// 41 limbs have at most 395 digits.
		n.Maps = append(n.Maps, impl.Affine{Rows: 1, Cols: 1, W: []impl.Rat{d.longRat()}, B: []impl.Rat{d.longRat()}})
	}
	text := impl.NetText(n)
	want := numbersOf(mapsByWords(n, nums("2/3")))
	if len(text) > impl.MaxNetText || len(want) < 60000 {
		t.Fatalf("%d bytes of text, %d of the result", len(text), len(want))
	}
	wantRun(t, text, "2/3", want)
}

// longRat is a number above 0 with 41 limbs above and below.
func (d *draws) longRat() impl.Rat {
	long := func() *big.Int {
		limbs := make([]uint32, 41)
		for i := range limbs {
			limbs[i] = uint32(d.next()>>32) | 1
		}
		return bigOf(limbs)
	}
	return ratOf(new(big.Rat).SetFrac(long(), long()))
}

func TestP16LengthOfInputs(t *testing.T) {
	for _, pad := range []string{" ", "\n"} {
		wantRun(t, oneText, paddedTo("3", impl.MaxText, pad), "13/2")
		wantRunCode(t, oneText, paddedTo("3", impl.MaxText+1, pad), 4)
		wantRunCode(t, oneText, paddedTo("3", 5*impl.MaxText, pad), 4)
		wantRun(t, oneText, strings.Repeat(pad, impl.MaxText-1)+"3", "13/2")
		wantRunCode(t, oneText, strings.Repeat(pad, impl.MaxText)+"3", 4)
		wantRun(t, "net 1\nmap 1 0\n5\n", strings.Repeat(pad, impl.MaxText), "5")
		wantRunCode(t, "net 1\nmap 1 0\n5\n", strings.Repeat(pad, impl.MaxText+1), 4)
	}
	many := strings.TrimSuffix(strings.Repeat("1 ", 10000), " ")
	net := "net 1\nmap 1 10000\n" + strings.Repeat("1 ", 10000) + "0\n"
	wantRun(t, net, many, "10000")
	wantRun(t, net, many+"\n", "10000")
	wantRunCode(t, net, many+" \n", 4)
}

// badNetTexts are texts of no net, with the code of ReadNet.
func badNetTexts() map[string]int {
	return map[string]int{
		"": 2, "net": 2, "net 1": 2, "net 1\nmap 1 1\n1": 2, "net 1\nmap 1 1\n1 1 1": 2, "net 1\nmap 1 1\n1\t1": 2, "graph 1 0\nbox 0 1\noutput 0": 2, oneText + "?": 2,
		"net 0": 3, "net 2\nmap 1 1\n1 1\nmap 1 2\n1 1 1": 3, "net 1\nmap 0 20001": 3,
		paddedTo(oneText, impl.MaxNetText+1, " "):     1,
		paddedTo("net 0", impl.MaxNetText+1, "\n"):    1,
		strings.Repeat("?", impl.MaxNetText+1):        1,
		strings.Repeat("\n", 2*impl.MaxNetText) + "?": 1,
	}
}

func TestP16TextsOfNoNet(t *testing.T) {
	for text, code := range badNetTexts() {
		for _, input := range []string{"", "1", "1 2", "x", "1/0", "\t", strings.Repeat(" ", impl.MaxText+1), strings.Repeat("x", impl.MaxText+1)} {
			wantRunCode(t, text, input, code)
		}
	}
	wantRun(t, paddedTo(oneText, impl.MaxNetText, " "), "1", "5/2")
	wantRunCode(t, paddedTo(oneText, impl.MaxNetText, " "), "x", 4)
	wantRunCode(t, paddedTo(oneText, impl.MaxNetText+1, " "), "1", 1)
}

// input gives the numbers of a text by the words of the document; false when it is not good.
func (p netPatterns) input(input string, cols int) ([]impl.Rat, bool) {
	words := strings.FieldsFunc(input, func(r rune) bool { return r == ' ' || r == '\n' })
	if len(input) > 20000 || len(words) != cols {
		return nil, false
	}
	x := []impl.Rat{}
	for _, word := range words {
		if !p.num.MatchString(word) {
			return nil, false
		}
		x = append(x, decimal(word))
	}
	return x, true
}

// input is most often one for a number of columns, when they are few.
func (d *draws) input(cols int) string {
	marks := []string{" ", " ", "\n", "  ", "\n\n", " \n ", "\t", "\r\n", ",", "", "/", "-"}
	input := []string{"", " ", "\n"}[d.below(3)]
	if d.below(6) == 0 {
		cols += d.below(3) - 1
	}
	for i := range min(max(cols, 0), 50) {
		if i > 0 {
			input += marks[d.below(6+d.below(2)*6)]
		}
		input += impl.RatText(d.small())
	}
	if d.below(12) == 0 {
		input += []string{"x", " x", "/0", " 1", "\t"}[d.below(5)]
	}
	return input + []string{"", " ", "\n"}[d.below(3)]
}

func TestP16AgainstTheWords(t *testing.T) {
	patterns := newNetPatterns()
	d := newDraws(81)
	seen := map[int]int{}
	for i := range 6000 {
		text := impl.NetText(d.net(4))
		if i%4 == 0 {
			text = d.looseText()
		}
		if d.below(4) == 0 {
			text = d.spoilNetText(text)
		}
		n, want := patterns.read(text)
		cols := 1
		if want == 0 {
			cols = n.Maps[0].Cols
		}
		input := d.input(cols)
		wantOut := ""
		if want == 0 {
			if x, ok := patterns.input(input, cols); ok {
				wantOut = numbersOf(mapsByWords(n, x))
			} else {
				want = 4
			}
		}
		if out, code := impl.Run(text, input); code != want || out != wantOut {
			t.Errorf("%q at %q: %q, code %d, want %q, code %d", text, input, out, code, wantOut, want)
		}
		seen[want]++
	}
	for code, least := range map[int]int{0: 1500, 2: 300, 3: 300, 4: 500} {
		if seen[code] < least {
			t.Errorf("code %d came %d times: the draws ask too little", code, seen[code])
		}
	}
}

func TestP16TheSameAnswerEveryTime(t *testing.T) {
	calls := sync.WaitGroup{}
	for range 8 {
		calls.Go(func() {
			wantRun(t, twoText, "1 2", "3 -1/2")
			wantRunCode(t, twoText, "1", 4)
			wantRunCode(t, "net 1", "1", 2)
		})
	}
	calls.Wait()
}
