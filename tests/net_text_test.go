package tests

import (
	"math/big"
	"strings"
	"testing"

	"loop.example/s0015/impl"
)

func wantText(t *testing.T, n impl.Net, want string) {
	t.Helper()
	if got := impl.NetText(n); got != want {
		t.Errorf("%s: got %.300q, want %.300q", showNet(n), got, want)
	}
}

// wantNetReadBack asks that the text of a net is read as the same net.
func wantNetReadBack(t *testing.T, n impl.Net) {
	t.Helper()
	text := impl.NetText(n)
	again, code := impl.ReadNet(text)
	if code != 0 || !sameNet(again, n) {
		t.Errorf("%s: %.300q is read with code %d, %s", showNet(n), text, code, showNet(again))
	}
	wantText(t, again, text)
}

func TestP9TextsByteByByte(t *testing.T) {
	cases := []struct {
		n    impl.Net
		want string
	}{
		{wholeNet(), wholeNetText},
		{netOf(affine(1, 1, "2", "3")), "net 1\nmap 1 1\n2 3\n"},
		{netOf(affine(1, 1, "-2/3", "0")), "net 1\nmap 1 1\n-2/3 0\n"},
		{netOf(affine(2, 3, "1 2 3 4 5 6", "7 8")), "net 1\nmap 2 3\n1 2 3 7\n4 5 6 8\n"},
		{netOf(affine(3, 2, "1 2 3 4 5 6", "7 8 9")), "net 1\nmap 3 2\n1 2 7\n3 4 8\n5 6 9\n"},
		{netOf(affine(3, 1, "1 -1 1", "0 0 0"), affine(1, 3, "1 -1 1", "0")), "net 2\nmap 3 1\n1 0\n-1 0\n1 0\nmap 1 3\n1 -1 1 0\n"},
		{netOf(flat(0, 0)), "net 1\nmap 0 0\n"},
		{netOf(flat(0, 7)), "net 1\nmap 0 7\n"},
		{netOf(flat(0, impl.MaxCells)), "net 1\nmap 0 20000\n"},
		{netOf(affine(2, 0, "", "-5/2 0")), "net 1\nmap 2 0\n-5/2\n0\n"},
		{netOf(flat(0, 1), affine(1, 0, "", "-5/2")), "net 2\nmap 0 1\nmap 1 0\n-5/2\n"},
		{netOf(flat(0, 1), flat(0, 0), flat(0, 0)), "net 3\nmap 0 1\nmap 0 0\nmap 0 0\n"},
		{netOf(flat(12, 0), affine(1, 12, "1 2 3 4 5 6 7 8 9 10 11 12", "13")), "net 2\nmap 12 0\n" + strings.Repeat("0\n", 12) + "map 1 12\n1 2 3 4 5 6 7 8 9 10 11 12 13\n"},
		{netOf(repeated(flat(0, 0), impl.MaxMaps)...), "net 10000\n" + strings.Repeat("map 0 0\n", impl.MaxMaps)},
	}
	for _, c := range cases {
		wantText(t, c.n, c.want)
		wantNetReadBack(t, c.n)
	}
}

func TestP9NoTextOfNetsThatAreNotValid(t *testing.T) {
	for _, n := range badNets() {
		wantText(t, n, "")
	}
	d := newDraws(31)
	for range 2000 {
		n := d.net(4)
		for range 1 + d.below(2) {
			d.spoilNet(&n)
		}
		if !netOkByWords(n) {
			wantText(t, n, "")
		}
	}
}

func TestP9DrawnNetsAreReadBack(t *testing.T) {
	d := newDraws(32)
	for range 1500 {
		n := d.net(5)
		lines := 1
		for k := range n.Maps {
			a := &n.Maps[k]
			lines += 1 + a.Rows
			for i := range a.W {
				if d.below(3) == 0 {
					a.W[i] = d.rat(6)
				}
			}
		}
		wantNetReadBack(t, n)
		text := impl.NetText(n)
		if strings.Contains(text, "  ") || strings.Contains(text, " \n") || strings.Contains(text, "\n ") || strings.Contains(text, "\n\n") {
			t.Errorf("%q has blanks or blank lines that should not be there", text)
		}
		if strings.Count(text, "\n") != lines || !strings.HasSuffix(text, "\n") {
			t.Errorf("%q has not %d lines", text, lines)
		}
	}
}

func TestP9NetsAtTheirGreatest(t *testing.T) {
	for _, n := range []impl.Net{
		netOf(flat(1, impl.MaxCells-1)), netOf(flat(impl.MaxCells, 0)), netOf(flat(0, impl.MaxCells)), netOf(flat(100, 199)),
		netOf(flat(1, 9999), flat(5000, 1)), netOf(repeated(flat(0, 0), impl.MaxMaps)...), netOf(repeated(affine(1, 1, "1", "-1"), 5000)...),
	} {
		wantNetReadBack(t, n)
	}
}

// tenTo is 10 to a power, a number of one digit more than the power.
func tenTo(power int) impl.Rat {
	return ratOf(new(big.Rat).SetInt(new(big.Int).Exp(big.NewInt(10), big.NewInt(int64(power)), nil)))
}

// netWithText is a valid net whose text has a number of bytes.
func netWithText(t *testing.T, size int) impl.Net {
	t.Helper()
	a := flat(300, 0)
	n := netOf(a)
	missing := size - len(impl.NetText(n))
	for r := range a.B {
		more := min(missing, impl.MaxDigits-1)
		a.B[r] = tenTo(more)
		missing -= more
	}
	if text := impl.NetText(n); len(text) != size {
		t.Fatalf("the text has %d bytes", len(text))
	}
	return n
}

// The text is not limited; only the reader is.
func TestP9TextsThatAreTooLongToBeRead(t *testing.T) {
	wantNetReadBack(t, netWithText(t, impl.MaxNetText))
	beyond := impl.NetText(netWithText(t, impl.MaxNetText+1))
	wantNetCode(t, beyond, 1)
	// Without its last byte it is short enough, and is read; what is printed then is too long again.
	n, code := impl.ReadNet(strings.TrimSuffix(beyond, "\n"))
	if code != 0 {
		t.Fatalf("code %d", code)
	}
	wantText(t, n, beyond)

	wide := flat(100, 199)
	for i := range wide.W {
		wide.W[i] = rat(-1234567, 8)
	}
	text := impl.NetText(netOf(wide))
	if want := "net 1\nmap 100 199\n" + strings.Repeat(strings.Repeat("-1234567/8 ", 199)+"0\n", 100); text != want {
		t.Errorf("the text of %d bytes is not the one of %d", len(text), len(want))
	}
	wantNetCode(t, text, 1)
}

func TestP9NumbersThatAreTooLongToBeRead(t *testing.T) {
	most, beyond := tenTo(impl.MaxDigits-1), tenTo(impl.MaxDigits)
	wantNetReadBack(t, netOf(impl.Affine{Rows: 1, Cols: 1, W: []impl.Rat{most}, B: []impl.Rat{most}}))
	one := nums("1")
	for _, n := range []impl.Net{
		netOf(impl.Affine{Rows: 1, Cols: 1, W: []impl.Rat{beyond}, B: one}),
		netOf(impl.Affine{Rows: 1, Cols: 1, W: one, B: []impl.Rat{beyond}}),
	} {
		text := impl.NetText(n)
		if !strings.Contains(text, "1"+strings.Repeat("0", impl.MaxDigits)) {
			t.Errorf("got %.200q", text)
		}
		wantNetCode(t, text, 2)
	}
	part := impl.Rat{Neg: true, Num: []uint32{3}, Den: beyond.Num}
	wantNetCode(t, impl.NetText(netOf(impl.Affine{Rows: 1, Cols: 0, B: []impl.Rat{part}})), 2)
}

func TestP9ArgumentsStay(t *testing.T) {
	for _, n := range append(badNets(), wholeNet(), netOf(flat(2, 2))) {
		own := copyNet(n)
		first := impl.NetText(own)
		if netSpoiled(own, n) || impl.NetText(own) != first {
			t.Errorf("%s was changed", showNet(n))
		}
	}
}
