package tests

import (
	"math/big"
	"regexp"
	"slices"
	"strconv"
	"strings"
	"testing"

	"loop.example/s0015/impl"
)

// wantNet asks for a net, read with code 0.
func wantNet(t *testing.T, text string, want impl.Net) {
	t.Helper()
	n, code := impl.ReadNet(text)
	if code != 0 || !sameNet(n, want) {
		t.Errorf("%.200q: code %d, %s; want %s", text, code, showNet(n), showNet(want))
	}
}

// wantNetCode asks for a code that is not 0, with nothing as the net.
func wantNetCode(t *testing.T, text string, want int) {
	t.Helper()
	n, code := impl.ReadNet(text)
	if code != want {
		t.Errorf("%.200q: code %d, want %d", text, code, want)
	}
	if len(n.Maps) != 0 {
		t.Errorf("%.200q: the net is not nothing: %s", text, showNet(n))
	}
}

func TestP9TextsThatAreRead(t *testing.T) {
	wantNet(t, wholeNetText, wholeNet())
	wantNet(t, strings.TrimSuffix(wholeNetText, "\n"), wholeNet())
	wantNet(t, "net 1\nmap 0 0", netOf(flat(0, 0)))
	wantNet(t, "net 1\nmap 0 5\n", netOf(flat(0, 5)))
	wantNet(t, "net 1\nmap 2 0\n5\n6/4", netOf(affine(2, 0, "", "5 3/2")))
	wantNet(t, "net 1\nmap 2 1\n5 6\n7 8", netOf(affine(2, 1, "5 7", "6 8")))
	wantNet(t, "net 2\nmap 1 2\n5 6 7\nmap 2 1\n1 2\n3 4", netOf(affine(1, 2, "5 6", "7"), affine(2, 1, "1 3", "2 4")))
}

func TestP9TextsAreLaidOutAnew(t *testing.T) {
	text := "\n\n   net   0002 \n\n  map 01 002\n  -2/4   010/5  -0\n   \n\nmap 000001 1\n007 0/9 "
	n, code := impl.ReadNet(text)
	if code != 0 {
		t.Fatalf("code %d", code)
	}
	wantText(t, n, "net 2\nmap 1 2\n-1/2 2 0\nmap 1 1\n7 0\n")
	wantNetReadBack(t, n)
}

func TestP9HeadLines(t *testing.T) {
	for _, line := range []string{
		"net", "net 1 1", "net x", "net -1", "net +1", "net 1/1", "net 1.0", "net 0000001", "net 1000000", "net\t1", "net 1\t", "net 1\r", "Net 1", "NET 1", "nets 1", "net1",
		"ne 1", "1", "1 net", "map 1 1", "graph 1 0", "1 1", "#", "-", "\x00", "\r", "\ufeffnet 1",
	} {
		wantNetCode(t, line+"\nmap 1 1\n1 1\n", 2)
		wantNetCode(t, " "+line+"  \nmap 1 1\n1 1\n", 2)
		wantNetCode(t, "\n \n"+line+"\nmap 1 1\n1 1\n", 2)
		wantNetCode(t, "net 1\n"+line+"\nmap 1 1\n1 1\n", 2)
	}
}

func TestP9MapLines(t *testing.T) {
	for _, line := range []string{
		"map", "map 1", "map 1 1 1", "map x 1", "map 1 x", "map -1 1", "map 1 -1", "map 1/1 1", "map 1 1/1", "map +1 1", "map 0000001 1", "map 1 0000001", "map 1 1000000",
		"map 1000000 1", "map\t1 1", "map 1\t1", "map 1 1\t", "map 1 1\r", "Map 1 1", "maps 1 1", "map1 1", "1 1", "1", "1 map 1", "net 1", "relu 0", "#", "-", "\x00", "\r",
	} {
		wantNetCode(t, "net 1\n"+line+"\n1 1\n", 2)
		wantNetCode(t, "net 1\n  "+line+" \n1 1\n", 2)
		wantNetCode(t, "net 2\nmap 1 1\n1 1\n"+line+"\n1 1\n", 2)
		wantNetCode(t, "net 2\n"+line+"\n1 1\nmap 1 1\n1 1\n", 2)
		wantNetCode(t, "net 1\nmap 1 1\n"+line+"x\n1 1\n", 2)
	}
}

func TestP9RowLines(t *testing.T) {
	good := "1 2 3"
	text := func(first string, second string) string {
		return "net 2\nmap 2 2\n" + first + "\n" + second + "\nmap 0 2\n"
	}
	wantNet(t, text(good, good), netOf(affine(2, 2, "1 2 1 2", "3 3"), flat(0, 2)))
	for _, line := range []string{
		"1", "1 2", "1 2 3 4", "1 2 3 4 5 6", "x 2 3", "1 x 3", "1 2 x", "1 2 3 x", "1/0 2 3", "1 2/0 3", "1 2 3/0", "1 2 +3", "1 2 3.0", "1 2 3e1", "1 2 -", "1 2 3/", "1 2 /3", "1 2 3/-1",
		"1 2 3\t", "\t1 2 3", "1\t2 3", "1 2 3\r", "1,2,3", "1, 2, 3", "map 0 2", "map 1 2", "map 2 3", "net 2", "row 1 2 3", "1 2 --3", "1 2 3/4/5", "1 2 \u0663", "1 2 \xff",
	} {
		wantNetCode(t, text(line, good), 2)
		wantNetCode(t, text(good, line), 2)
		wantNetCode(t, text(" "+line, good), 2)
	}
	for _, line := range []string{"", "1 2", "x", "1/0", "map 0 0"} {
		wantNetCode(t, "net 1\nmap 1 0\n"+line+"\n", 2)
	}
}

func TestP9NumbersOfLines(t *testing.T) {
	lines := strings.Split(strings.TrimSuffix(wholeNetText, "\n"), "\n")
	for i := range lines {
		wantNetCode(t, strings.Join(lines[:i], "\n"), 2)
		wantNetCode(t, strings.Join(lines[:i], "\n")+"\n", 2)
		wantNetCode(t, strings.Join(slices.Delete(slices.Clone(lines), i, i+1), "\n"), 2)
		wantNetCode(t, strings.Join(slices.Insert(slices.Clone(lines), i, lines[i]), "\n"), 2)
	}
	for _, line := range []string{"net 5", "map 0 0", "map 0 1", "map 1 1", "1", "1 1", "-1 1 -1/9", "x", "0", "\t", "\r"} {
		wantNetCode(t, wholeNetText+line, 2)
		wantNetCode(t, wholeNetText+line+"\n", 2)
		wantNetCode(t, wholeNetText+"\n  \n"+line, 2)
	}
	for count := range 4 {
		for maps := range 4 {
			for rows := range 4 {
				for lines := range 4 {
					text := "net " + strconv.Itoa(count) + "\n" + strings.Repeat("map "+strconv.Itoa(rows)+" 3\n"+strings.Repeat("0 0 0 0\n", lines), maps)
					formed := count == maps && (maps == 0 || rows == lines)
					switch {
					case !formed:
						wantNetCode(t, text, 2)
					case maps == 0 || maps > 1 && rows != 3:
						wantNetCode(t, text, 3)
					default:
						wantNet(t, text, netOf(repeated(flat(rows, 3), maps)...))
					}
				}
			}
		}
	}
}

func TestP9NumbersOfNums(t *testing.T) {
	for cols := range 6 {
		for words := range 9 {
			text := "net 1\nmap 2 " + strconv.Itoa(cols) + "\n" + strings.Repeat(" 0", words) + "\n" + strings.Repeat("0 ", words) + "\n"
			if words == cols+1 {
				wantNet(t, text, netOf(flat(2, cols)))
			} else {
				wantNetCode(t, text, 2)
			}
		}
	}
}

func TestP9EmptyTexts(t *testing.T) {
	for _, text := range []string{"", " ", "\n", "\n\n \n", strings.Repeat("\n", impl.MaxNetText), strings.Repeat(" ", impl.MaxNetText)} {
		wantNetCode(t, text, 2)
	}
}

func TestP9Ints(t *testing.T) {
	good := []string{"0", "1", "2", "00", "01", "000002", "000000", "010", "000010"}
	for _, word := range good {
		value, _ := strconv.Atoi(word)
		wantNet(t, "net 1\nmap 0 "+word, netOf(flat(0, value)))
		wantNet(t, "net 1\nmap "+word+" 0\n"+strings.Repeat("0\n", value), netOf(flat(value, 0)))
		maps := "net " + word + "\n" + strings.Repeat("map 0 0\n", value)
		if value > 0 {
			wantNet(t, maps, netOf(repeated(flat(0, 0), value)...))
		} else {
			wantNetCode(t, maps, 3)
		}
	}
	wantNet(t, "net 1\nmap 0 020000", netOf(flat(0, 20000)))
	bad := []string{
		"0000000", "0000001", "1000000", "1234567", "99999999999999999999", "-1", "-0", "+1", "1/1", "1.0", "1e0", "0x1", "1_0", "a", "1a", "\u0661", "\uff11", "\xff", "1\x00", "\t1", "1\r",
	}
	for _, word := range bad {
		wantNetCode(t, "net "+word+"\nmap 0 0", 2)
		wantNetCode(t, "net 1\nmap "+word+" 0\n0", 2)
		wantNetCode(t, "net 1\nmap 0 "+word, 2)
		wantNetCode(t, "net 1\nmap 1 "+word+"\n0 0", 2)
	}
}

func TestP9Nums(t *testing.T) {
	full := strings.Repeat("9", impl.MaxDigits)
	good := []string{"0", "-0", "7", "007", "-7", "2/4", "-6/4", "0/5", "1234567", "123456789012345678901234567890/7", full, "-1/" + full, full + "/" + full, "-" + full}
	bad := []string{
		"-", "+1", "1/0", "0/0", "-1/00", "1/", "/1", "1/-1", "1.5", "1e3", "a", "--1", "1//2", "\t1", "1\t", "1\r", "1/2/3",
		full + "9", "0" + full, "1/0" + full, "-0" + full, "\u0661", "\xff",
	}
	places := []struct {
		before, behind string
		pick           func(n impl.Net) impl.Rat
	}{
		{"net 1\nmap 1 2\n", " 5 6", func(n impl.Net) impl.Rat { return n.Maps[0].W[0] }},
		{"net 1\nmap 1 2\n5 ", " 6", func(n impl.Net) impl.Rat { return n.Maps[0].W[1] }},
		{"net 1\nmap 1 2\n5 6 ", "", func(n impl.Net) impl.Rat { return n.Maps[0].B[0] }},
		{"net 1\nmap 2 2\n1 2 3\n5 ", " 7\n", func(n impl.Net) impl.Rat { return n.Maps[0].W[3] }},
		{"net 1\nmap 2 0\n5\n", "\n", func(n impl.Net) impl.Rat { return n.Maps[0].B[1] }},
		{"net 2\nmap 1 0\n5\nmap 1 1\n6 ", "\n", func(n impl.Net) impl.Rat { return n.Maps[1].B[0] }},
	}
	for _, p := range places {
		for _, word := range good {
			want, _ := new(big.Rat).SetString(word)
			n, code := impl.ReadNet(p.before + word + p.behind)
			if code != 0 || !sameRat(p.pick(n), ratOf(want)) {
				t.Errorf("%.100q: code %d", p.before+word+p.behind, code)
			}
		}
		for _, word := range bad {
			wantNetCode(t, p.before+word+p.behind, 2)
		}
	}
}

func TestP9Blanks(t *testing.T) {
	wide := strings.ReplaceAll(wholeNetText, " ", "   ")
	wide = strings.ReplaceAll(wide, "\n", "  \n    ")
	wantNet(t, wide, wholeNet())
	wantNet(t, "  "+wide+" ", wholeNet())
	lines := strings.Split(wholeNetText, "\n")
	for i := range len(lines) + 1 {
		for _, blank := range []string{"", " ", "     "} {
			more := slices.Insert(slices.Clone(lines), i, blank)
			wantNet(t, strings.Join(more, "\n"), wholeNet())
			more = slices.Insert(more, 0, "  ", "")
			wantNet(t, strings.Join(more, "\n"), wholeNet())
		}
	}
	wantNet(t, "\n \n\n"+strings.ReplaceAll(wholeNetText, "\n", "\n\n  \n"), wholeNet())
}

// Bytes that other readers take for blanks are ordinary bytes of a word.
func TestP9OrdinaryBytes(t *testing.T) {
	text := "net 1\nmap 1 1\n1/2 -3"
	for _, odd := range []string{"\t", "\r", "\v", "\f", "\x00", "\x1f", "\u00a0", "\u0085", "\u2003", "\u3000", "\x85", "\xa0", "\xff"} {
		for at := range len(text) + 1 {
			wantNetCode(t, text[:at]+odd+text[at:], 2)
		}
		for i := range 4 {
			lines := slices.Insert(strings.Split(text, "\n"), i, odd)
			wantNetCode(t, strings.Join(lines, "\n"), 2)
		}
		wantNetCode(t, strings.ReplaceAll(text, " ", odd), 2)
	}
	wantNetCode(t, strings.ReplaceAll(text, "\n", "\r\n"), 2)
	wantNetCode(t, strings.ReplaceAll(text, "\n", "\r"), 2)
	wantNetCode(t, strings.ReplaceAll(text, "\n", " "), 2)
}

// These texts name far more than they have, and memory for it must not be made.
func TestP9CountsBeyondTheText(t *testing.T) {
	for _, text := range []string{
		"net 999999", "net 999999\nmap 0 0", "net 2\nmap 0 0", "net 999999\n" + strings.Repeat("map 0 0\n", 12000),
		"net 1\nmap 999999 999999", "net 1\nmap 999999 999999\n1 1", "net 1\nmap 999999 0\n1\n1\n1", "net 1\nmap 1 999999\n1 1 1", "net 1\nmap 1 999999\n",
		"net 1\nmap 999999 1\n1 1\n1 1", "net 999999\nmap 999999 999999\n0", "net 1\nmap 999999 0\n" + strings.Repeat("1\n", 49000), "net 1\nmap 1 999999\n" + strings.Repeat("1 ", 49000),
		"net 3\nmap 0 999999\nmap 0 999999", "net 1\nmap 20001 20001\n1", "net 1\nmap 1 20001\n1 1",
	} {
		wantNetCode(t, text, 2)
	}
}

func TestP9NetsThatAreNotValid(t *testing.T) {
	zeros := func(count int) string { return strings.Repeat("0 ", count) + "\n" }
	for _, text := range []string{
		"net 0", "\n\n net 000000 \n",
		"net 1\nmap 0 20001", "net 1\nmap 0 999999", "net 2\nmap 0 999999\nmap 0 0",
		"net 1\nmap 20001 0\n" + strings.Repeat("0\n", 20001),
		"net 1\nmap 40000 0\n" + strings.Repeat("0\n", 40000),
		"net 1\nmap 1 20000\n" + zeros(20001),
		"net 1\nmap 1 40000\n" + zeros(40001),
		"net 2\nmap 1 10000\n" + zeros(10001) + "map 5000 1\n" + strings.Repeat("0 0\n", 5000),
		"net 10001\n" + strings.Repeat("map 0 0\n", 10001),
		"net 2\nmap 1 1\n1 0\nmap 1 2\n1 1 0\n", "net 2\nmap 1 1\n1 0\nmap 1 0\n1", "net 2\nmap 0 1\nmap 0 1", "net 3\nmap 1 1\n1 1\nmap 0 1\nmap 0 1",
	} {
		wantNetCode(t, text, 3)
		wantNetCode(t, strings.Replace(text, "net", "net ", 1)+"\n", 3)
		// Without the form it is the form that counts.
		wantNetCode(t, text+"\n0 0 0", 2)
		wantNetCode(t, strings.Replace(text, "net", "net 1", 1), 2)
	}
	exact := []string{
		"net 1\nmap 0 20000", "net 1\nmap 20000 0\n" + strings.Repeat("0\n", 20000), "net 1\nmap 1 19999\n" + zeros(20000),
		"net 2\nmap 1 9999\n" + zeros(10000) + "map 5000 1\n" + strings.Repeat("0 0\n", 5000), "net 10000\n" + strings.Repeat("map 0 0\n", 10000),
	}
	for _, text := range exact {
		if n, code := impl.ReadNet(text); code != 0 || !impl.NetOk(n) {
			t.Errorf("%.100q: code %d", text, code)
		}
	}
}

func TestP9LengthOfTexts(t *testing.T) {
	for _, pad := range []string{" ", "\n"} {
		wantNet(t, paddedTo(wholeNetText, impl.MaxNetText, pad), wholeNet())
		wantNetCode(t, paddedTo(wholeNetText, impl.MaxNetText+1, pad), 1)
		wantNetCode(t, paddedTo(wholeNetText, 3*impl.MaxNetText, pad), 1)
		wantNetCode(t, paddedTo("net 0", impl.MaxNetText, pad), 3)
		wantNetCode(t, paddedTo("net 0", impl.MaxNetText+1, pad), 1)
		wantNetCode(t, paddedTo("net x", impl.MaxNetText, pad), 2)
		wantNetCode(t, paddedTo("net x", impl.MaxNetText+1, pad), 1)
		wantNetCode(t, pad+paddedTo(wholeNetText, impl.MaxNetText, pad), 1)
	}
	wantNetCode(t, strings.Repeat("?", impl.MaxNetText), 2)
	wantNetCode(t, strings.Repeat("?", impl.MaxNetText+1), 1)
	// Bytes count, not letters.
	wantNetCode(t, strings.Repeat("\u00e9", impl.MaxNetText/2), 2)
	wantNetCode(t, strings.Repeat("\u00e9", impl.MaxNetText/2)+" ", 1)
	wantNetCode(t, strings.Repeat("\u00e9", impl.MaxNetText/2+1), 1)
}

// netPatterns reads a text by the document's words: the words of each line are held against patterns.
type netPatterns struct {
	head, shape, num *regexp.Regexp
}

func newNetPatterns() netPatterns {
	return netPatterns{
		head:  exactPattern("net", intPattern),
		shape: exactPattern("map", intPattern, intPattern),
		num:   regexp.MustCompile(`^` + numPattern + `$`),
	}
}

// ints are the ints of a line; nil when the line does not have the form.
func ints(form *regexp.Regexp, line string) []int {
	found := form.FindStringSubmatch(line)
	if found == nil {
		return nil
	}
	values := []int{}
	for _, word := range found[1:] {
		value, _ := strconv.Atoi(word)
		values = append(values, value)
	}
	return values
}

// take gives the first line and those behind it; a line that cannot stand anywhere when there is none.
func take(lines []string) (string, []string) {
	if len(lines) == 0 {
		return "?", nil
	}
	return lines[0], lines[1:]
}

// row is one line of cols+1 nums, or nil.
func (p netPatterns) row(line string, cols int) []impl.Rat {
	words := strings.FieldsFunc(line, func(r rune) bool { return r == ' ' })
	if len(words) != cols+1 {
		return nil
	}
	list := []impl.Rat{}
	for _, word := range words {
		if !p.num.MatchString(word) {
			return nil
		}
		list = append(list, decimal(word))
	}
	return list
}

// decimal reads a num run by run: zeros in front would make a run of a whole big.Rat octal.
func decimal(word string) impl.Rat {
	top, bottom, divided := strings.Cut(word, "/")
	if !divided {
		bottom = "1"
	}
	num, _ := new(big.Int).SetString(top, 10)
	den, _ := new(big.Int).SetString(bottom, 10)
	return ratOf(new(big.Rat).SetFrac(num, den))
}

// read gives the net and the code of a text that is not too long.
func (p netPatterns) read(text string) (impl.Net, int) {
	lines := slices.DeleteFunc(strings.Split(text, "\n"), func(line string) bool { return strings.Trim(line, " ") == "" })
	line, lines := take(lines)
	head := ints(p.head, line)
	if head == nil {
		return impl.Net{}, 2
	}
	n := impl.Net{}
	for range head[0] {
		line, lines = take(lines)
		sides := ints(p.shape, line)
		if sides == nil {
			return impl.Net{}, 2
		}
		a := impl.Affine{Rows: sides[0], Cols: sides[1]}
		for range a.Rows {
			line, lines = take(lines)
			row := p.row(line, a.Cols)
			if row == nil {
				return impl.Net{}, 2
			}
			a.W, a.B = append(a.W, row[:a.Cols]...), append(a.B, row[a.Cols])
		}
		n.Maps = append(n.Maps, a)
	}
	if len(lines) > 0 {
		return impl.Net{}, 2
	}
	if !netOkByWords(n) {
		return impl.Net{}, 3
	}
	return n, 0
}

// spoilNetText changes a text of a net in one place.
func (d *draws) spoilNetText(text string) string {
	odd := []string{" ", "\n", "0", "1", "2", "/", "-", "\t", "\r", "x", "/0", " 0", " 1", "\n\n", "\nmap 0 1\n", "\nmap 1 0\n0\n", "\n0\n", "\n1 1\n", "+", "  ", " \n ", "00000"}
	at := d.below(len(text) + 1)
	switch d.below(5) {
	case 0:
		return text[:at] + odd[d.below(len(odd))] + text[at:]
	case 1:
		return text[:at] + text[min(len(text), at+1+d.below(4)):]
	case 2:
		return text[:at] + odd[d.below(len(odd))] + text[min(len(text), at+1):]
	case 3:
		lines := strings.Split(text, "\n")
		i, j := d.below(len(lines)), d.below(len(lines))
		lines[i], lines[j] = lines[j], lines[i]
		return strings.Join(lines, "\n")
	}
	lines := strings.Split(text, "\n")
	i := d.below(len(lines))
	return strings.Join(slices.Delete(lines, i, i+1), "\n")
}

// looseText has the form; its net is often not valid.
func (d *draws) looseText() string {
	count := d.below(4)
	text := "net " + strconv.Itoa(count) + "\n"
	for range count {
		rows, cols := d.below(3), d.below(3)
		if rows == 0 && d.below(3) == 0 {
			cols = impl.MaxCells - 1 + d.below(3)
		}
		text += "map " + strconv.Itoa(rows) + " " + strconv.Itoa(cols) + "\n"
		for range rows {
			text += numbersOf(d.smalls(cols+1)) + "\n"
		}
	}
	return text
}

func TestP9AgainstPatterns(t *testing.T) {
	patterns := newNetPatterns()
	d := newDraws(33)
	seen := map[int]int{}
	for i := range 20000 {
		text := wholeNetText
		switch i % 3 {
		case 0:
			text = impl.NetText(d.net(4))
		case 1:
			text = d.looseText()
		}
		for range d.below(4) {
			text = d.spoilNetText(text)
		}
		n, code := impl.ReadNet(text)
		want, wantCode := patterns.read(text)
		if code != wantCode || !sameNet(n, want) {
			t.Errorf("%q: code %d, %s; want code %d, %s", text, code, showNet(n), wantCode, showNet(want))
		}
		seen[code]++
		// What is accepted is printed and read again as the same net.
		if code == 0 {
			wantNetReadBack(t, n)
		}
	}
	for code, least := range map[int]int{0: 3000, 2: 3000, 3: 1000} {
		if seen[code] < least {
			t.Errorf("code %d was seen %d times: the draws ask too little", code, seen[code])
		}
	}
}

func TestP9AnswersAreNew(t *testing.T) {
	first, _ := impl.ReadNet(wholeNetText)
	again, _ := impl.ReadNet(wholeNetText)
	if overlap(append(stretchesOfNet(first), stretchesOfNet(again)...)) {
		t.Errorf("lists of answers share memory")
	}
	for _, text := range []string{
		"net 2\nmap 3 2\n0 0 0\n1 1 1\n-0 2/2 0/7\nmap 2 3\n1 1 1 1\n0 0 0 0", "net 4\nmap 0 0\nmap 0 0\nmap 1 0\n1\nmap 1 1\n1 1", "net 1\nmap 4 0\n1\n1\n1\n1",
	} {
		n, code := impl.ReadNet(text)
		if code != 0 || overlap(stretchesOfNet(n)) {
			t.Errorf("%q: code %d; lists of an answer share memory", text, code)
		}
	}
}
