package tests

import (
	"math/big"
	"strings"
	"testing"

	"loop.example/s0015/impl"
)

// wantRead asks for a number, read with code 0.
func wantRead(t *testing.T, text string, want impl.Rat) {
	t.Helper()
	got, code := impl.RatParse(text)
	if code != 0 || !sameRat(got, want) {
		t.Errorf("%q: got %v and code %d, want %v", text, got, code, want)
	}
}

// wantCode asks for a refusal, with the Rat of zero beside it.
func wantCode(t *testing.T, text string, want int) {
	t.Helper()
	got, code := impl.RatParse(text)
	if code != want || !sameRat(got, rat(0, 1)) {
		t.Errorf("%q: got %v and code %d, want code %d", text, got, code, want)
	}
}

func TestP3Reading(t *testing.T) {
	cases := []struct {
		text string
		n, d int64
	}{
		{"0", 0, 1},
		{"-0", 0, 1},
		{"000", 0, 1},
		{"-00/7", 0, 1},
		{"0/5", 0, 1},
		{"7", 7, 1},
		{"007", 7, 1},
		{"-007", -7, 1},
		{"2/4", 1, 2},
		{"-2/4", -1, 2},
		{"6/3", 2, 1},
		{"9/9", 1, 1},
		{"010/0100", 1, 10},
		{"3/1", 3, 1},
		{"999999999", 999999999, 1},
		{"1000000000", 1000000000, 1},
		{"1000000001/1000000000", 1000000001, 1000000000},
		{"4294967295", 4294967295, 1},
		{"4294967296", 4294967296, 1},
		{"-18446744073709551/1000", -18446744073709551, 1000},
		{"9223372036854775807", 9223372036854775807, 1},
	}
	for _, c := range cases {
		wantRead(t, c.text, rat(c.n, c.d))
	}
}

func TestP3TextsWithoutTheForm(t *testing.T) {
	texts := []string{
		"", "-", "--1", "+1", "+", "/", "-/", "1/", "/1", "-/1", "1//2", "1/2/", "1/2/3", "1/-2", "1/+2", "-1/-2",
		" 1", "1 ", "1 /2", "1/ 2", "1\n", "\t1", "1\r", "1.5", "1e3", "0x10", "1_000", "1,5", "a", "1a", "a1", "1/a",
		"1-", "1-2", "\x00", "1\x00", "\u0661", "1/\u0662", "\xff", "1/2\xff", "Inf", "NaN",
	}
	for _, text := range texts {
		wantCode(t, text, 1)
	}
}

// Every byte at every place of a good text: only a digit keeps the form, and '-' and '/' where they may stand.
func TestP3EveryByte(t *testing.T) {
	for b := range 256 {
		digit := b >= '0' && b <= '9'
		byte1 := string([]byte{byte(b)})
		asked := map[string]bool{
			byte1:              digit,
			byte1 + "12":       digit || b == '-',
			"1" + byte1 + "2":  digit || b == '/',
			"12" + byte1:       digit,
			"-" + byte1:        digit,
			"-" + byte1 + "2":  digit,
			"3/" + byte1 + "2": digit,
			"3/2" + byte1:      digit,
		}
		for text, form := range asked {
			if _, code := impl.RatParse(text); form != (code == 0) {
				t.Errorf("%q: code %d", text, code)
			} else if !form {
				wantCode(t, text, 1)
			}
		}
	}
}

func TestP3LengthOfRuns(t *testing.T) {
	full := strings.Repeat("9", impl.MaxDigits)
	zeros := strings.Repeat("0", impl.MaxDigits-1) + "3"
	power := new(big.Int).Exp(big.NewInt(10), big.NewInt(impl.MaxDigits), nil)
	nines := new(big.Rat).SetInt(power.Sub(power, big.NewInt(1)))

	wantRead(t, full, ratOf(nines))
	wantRead(t, "-"+full, ratOf(new(big.Rat).Neg(nines)))
	wantRead(t, "1/"+full, ratOf(new(big.Rat).Inv(nines)))
	wantRead(t, "-"+full+"/"+full, rat(-1, 1))
	wantRead(t, zeros, rat(3, 1))
	wantRead(t, zeros+"/"+zeros, rat(1, 1))
	wantRead(t, "2/"+zeros, rat(2, 3))
	wantRead(t, strings.Repeat("0", impl.MaxDigits), rat(0, 1))

	for _, long := range []string{full + "9", "0" + full, "0" + zeros, strings.Repeat("0", impl.MaxDigits+1), strings.Repeat("1", 5000)} {
		wantCode(t, long, 2)
		wantCode(t, "-"+long, 2)
		wantCode(t, long+"/1", 2)
		wantCode(t, "1/"+long, 2)
		wantCode(t, "-1/"+long, 2)
		wantCode(t, long+"/"+long, 2)
	}
}

func TestP3ZeroDivisor(t *testing.T) {
	for _, text := range []string{"1/0", "-1/0", "0/0", "-0/00", "5/000", "1/" + strings.Repeat("0", impl.MaxDigits)} {
		wantCode(t, text, 3)
	}
}

func TestP3OrderOfCodes(t *testing.T) {
	long := strings.Repeat("1", impl.MaxDigits+1)
	nought := strings.Repeat("0", impl.MaxDigits+1)
	formFirst := []string{
		long + "/", "/" + long, long + "x", "x" + long, long + "/x", "x/" + long, " " + long, long + " ", "+" + long,
		"1/0/", "1/0x", "x/0", "/0", "-/0", "1/0 ", "+1/0", "1/-0", "1/0/0",
		long + "/0x", long + "/0/0",
	}
	for _, text := range formFirst {
		wantCode(t, text, 1)
	}
	for _, text := range []string{long + "/0", "-" + long + "/00", nought + "/0", "1/" + nought, "0/" + nought} {
		wantCode(t, text, 2)
	}
}

func TestP3Writing(t *testing.T) {
	cases := []struct {
		n, d int64
		want string
	}{
		{0, 1, "0"},
		{1, 1, "1"},
		{-1, 1, "-1"},
		{1, 2, "1/2"},
		{-3, 2, "-3/2"},
		{10, 1, "10"},
		{999999999, 1, "999999999"},
		{1000000000, 1, "1000000000"},
		{1000000001, 1000000000, "1000000001/1000000000"},
		{-1000000000000000007, 1, "-1000000000000000007"},
		{4294967296, 4294967295, "4294967296/4294967295"},
	}
	for _, c := range cases {
		if got := impl.RatText(rat(c.n, c.d)); got != c.want {
			t.Errorf("%d/%d: got %q, want %q", c.n, c.d, got, c.want)
		}
	}
	for _, r := range validRats() {
		if got, want := impl.RatText(r), valueOf(r).RatString(); got != want {
			t.Errorf("got %q, want %q", got, want)
		}
	}
}

func TestP3WritingInvalidOnes(t *testing.T) {
	for _, r := range invalidRats() {
		if got := impl.RatText(r); got != "" {
			t.Errorf("%v: %q", r, got)
		}
	}
}

// RatText has no limit, so its text may be one that RatParse refuses for its length.
func TestP3WritingBeyondTheReader(t *testing.T) {
	power := new(big.Int).Exp(big.NewInt(10), big.NewInt(impl.MaxDigits), nil)
	fits := new(big.Rat).SetInt(new(big.Int).Sub(power, big.NewInt(1)))
	tooLong := new(big.Rat).SetInt(power)
	for _, value := range []*big.Rat{fits, new(big.Rat).Inv(fits), new(big.Rat).Neg(fits)} {
		text := impl.RatText(ratOf(value))
		if text != value.RatString() {
			t.Errorf("got %q", text)
		}
		wantRead(t, text, ratOf(value))
	}
	for _, value := range []*big.Rat{tooLong, new(big.Rat).Inv(tooLong), new(big.Rat).Neg(tooLong)} {
		text := impl.RatText(ratOf(value))
		if text != value.RatString() {
			t.Errorf("got %q", text)
		}
		wantCode(t, text, 2)
	}
}

func TestP3ReadingWhatWasWritten(t *testing.T) {
	d := newDraws(6)
	list := validRats()
	for range 500 {
		list = append(list, d.rat(40))
	}
	for _, r := range list {
		wantRead(t, impl.RatText(r), r)
	}
}

func TestP3WritingWhatWasRead(t *testing.T) {
	d := newDraws(7)
	for range 1000 {
		top, bottom := bigOf(d.list(8)), bigOf(append(d.list(8), 1))
		text := strings.Repeat("0", d.below(12)) + top.String() + "/" + strings.Repeat("0", d.below(12)) + bottom.String()
		want := new(big.Rat).SetFrac(top, bottom)
		if d.below(2) == 0 {
			text = "-" + text
			want.Neg(want)
		}
		wantRead(t, text, ratOf(want))
		first, _ := impl.RatParse(text)
		wantRead(t, impl.RatText(first), first)
	}
}

func TestP3AnswersAreNew(t *testing.T) {
	for _, text := range []string{"0", "x", "1/0", "6/4", "12345678901234567890"} {
		first, _ := impl.RatParse(text)
		again, _ := impl.RatParse(text)
		overwrite(first.Num)
		if len(first.Den) > 0 && first.Den[0] == 0xabababab {
			t.Errorf("%q: the lists of one answer share memory", text)
		}
		overwrite(first.Den)
		if third, _ := impl.RatParse(text); !sameRat(again, third) || !impl.RatOk(again) {
			t.Errorf("%q: two answers share memory", text)
		}
	}
}
