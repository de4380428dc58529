package tests

import (
	"math/big"
	"testing"

	"loop.example/s0015/impl"
)

// grid is a map laid out as a table, for a round by the words of the document.
type grid struct {
	cols int
	w    [][]*big.Rat
	b    []*big.Rat
}

func gridOf(a impl.Affine) grid {
	g := grid{cols: a.Cols, b: valuesOf(a.B)}
	for r := range a.Rows {
		g.w = append(g.w, valuesOf(a.W[r*a.Cols:r*a.Cols+a.Cols]))
	}
	return g
}

func (g grid) affine() impl.Affine {
	a := impl.Affine{Rows: len(g.w), Cols: g.cols}
	for r, row := range g.w {
		for _, value := range row {
			a.W = append(a.W, ratOf(value))
		}
		a.B = append(a.B, ratOf(g.b[r]))
	}
	return a
}

func (g grid) cells() int {
	return len(g.w) * (g.cols + 1)
}

func (g grid) zeroRow(r int) bool {
	for _, value := range g.w[r] {
		if value.Sign() != 0 {
			return false
		}
	}
	return true
}

func (g grid) zeroColumn(c int) bool {
	for r := range g.w {
		if g.w[r][c].Sign() != 0 {
			return false
		}
	}
	return true
}

func (g grid) withoutRow(r int) grid {
	out := grid{cols: g.cols}
	for q := range g.w {
		if q != r {
			out.w, out.b = append(out.w, g.w[q]), append(out.b, g.b[q])
		}
	}
	return out
}

func (g grid) withoutColumn(c int) grid {
	out := grid{cols: g.cols - 1, b: g.b}
	for _, row := range g.w {
		kept := []*big.Rat{}
		for at, value := range row {
			if at != c {
				kept = append(kept, value)
			}
		}
		out.w = append(out.w, kept)
	}
	return out
}

// then is the map that does first g and then next.
func (g grid) then(next grid) grid {
	out := grid{cols: g.cols}
	for q, row := range next.w {
		weights, constant := []*big.Rat{}, next.b[q]
		for c := range g.cols {
			sum := new(big.Rat)
			for r := range row {
				sum = plus(sum, times(row[r], g.w[r][c]))
			}
			weights = append(weights, sum)
		}
		for r := range row {
			constant = plus(constant, times(row[r], g.b[r]))
		}
		out.w, out.b = append(out.w, weights), append(out.b, constant)
	}
	return out
}

// tally counts what happened in rounds.
type tally struct {
	below, fixed, unused, moved, several, joined, tooDear, empty int
}

// wordRound is a round at work; gone and the spans are judged by the net as it was given.
type wordRound struct {
	given, maps []grid
	spans       []impl.Span
	gone        [][]bool
	seen        *tally
}

func (w *wordRound) judge() bool {
	any := false
	for k := range len(w.given) - 1 {
		flags, count := []bool{}, 0
		for r := range w.given[k].w {
			below := valueOf(w.spans[k].Hi[r]).Sign() <= 0
			fixed, unused := w.given[k].zeroRow(r), w.given[k+1].zeroColumn(r)
			flags = append(flags, below || fixed || unused)
			if below && !fixed && !unused {
				w.seen.below++
			}
			if fixed && !below && !unused {
				w.seen.fixed++
			}
			if unused && !below && !fixed {
				w.seen.unused++
			}
			if below || fixed || unused {
				any = true
				count++
			}
		}
		if count > 1 {
			w.seen.several++
		}
		if count == len(flags) {
			w.seen.empty++
		}
		w.gone = append(w.gone, flags)
	}
	return any
}

func (w *wordRound) takeOut() {
	for k, flags := range w.gone {
		for r, gone := range flags {
			constant := w.given[k].b[r]
			if !gone || !w.given[k].zeroRow(r) || constant.Sign() <= 0 {
				continue
			}
			for q := range w.given[k+1].w {
				w.maps[k+1].b[q] = plus(w.maps[k+1].b[q], times(w.given[k+1].w[q][r], constant))
				w.seen.moved++
			}
		}
	}
	for k, flags := range w.gone {
		for r := len(flags) - 1; r >= 0; r-- {
			if flags[r] {
				w.maps[k] = w.maps[k].withoutRow(r)
				w.maps[k+1] = w.maps[k+1].withoutColumn(r)
			}
		}
	}
}

func (w *wordRound) isOpen(k int) bool {
	for r, gone := range w.gone[k] {
		if !gone && valueOf(w.spans[k].Lo[r]).Sign() < 0 {
			return false
		}
	}
	return true
}

func (w *wordRound) join() []grid {
	finished := []grid{}
	held := w.maps[0]
	for k, next := range w.maps[1:] {
		both := grid{cols: held.cols, w: make([][]*big.Rat, len(next.w))}
		fits := both.cells() <= held.cells()+next.cells()
		if w.isOpen(k) && !fits {
			w.seen.tooDear++
		}
		if w.isOpen(k) && fits {
			held = held.then(next)
			w.seen.joined++
			continue
		}
		finished = append(finished, held)
		held = next
	}
	return append(finished, held)
}

// roundByWords is OptRound for a valid net and a box for its input.
func roundByWords(n impl.Net, lo []impl.Rat, hi []impl.Rat, seen *tally) (impl.Net, bool) {
	w := &wordRound{spans: boundsByWords(n, lo, hi), seen: seen}
	for _, a := range n.Maps {
		w.given, w.maps = append(w.given, gridOf(a)), append(w.maps, gridOf(a))
	}
	changed := w.judge()
	w.takeOut()
	out := impl.Net{}
	for _, g := range w.join() {
		out.Maps = append(out.Maps, g.affine())
	}
	return out, changed || len(out.Maps) < len(n.Maps)
}

// wantRound asks for the net behind a round, and for that of the words beside it.
func wantRound(t *testing.T, what string, n impl.Net, lo string, hi string, want impl.Net, changed bool) {
	t.Helper()
	got, ok := impl.OptRound(n, nums(lo), nums(hi))
	if ok != changed || !sameNet(got, want) {
		t.Errorf("%s: got %v,\n%swant %v,\n%s", what, ok, impl.NetText(got), changed, impl.NetText(want))
	}
	byWords, ok := roundByWords(n, nums(lo), nums(hi), &tally{})
	if ok != changed || !sameNet(byWords, want) {
		t.Errorf("%s: by the words it is %v,\n%swant %v,\n%s", what, ok, impl.NetText(byWords), changed, impl.NetText(want))
	}
}

// wantStill asks for a round that finds nothing to do.
func wantStill(t *testing.T, what string, n impl.Net, lo string, hi string) {
	t.Helper()
	wantRound(t, what, n, lo, hi, n, false)
}

func wantNoRound(t *testing.T, what string, n impl.Net, lo []impl.Rat, hi []impl.Rat) {
	t.Helper()
	if got, ok := impl.OptRound(n, lo, hi); ok || len(got.Maps) != 0 {
		t.Errorf("%s: %s gives %s, %v", what, showNet(n), showNet(got), ok)
	}
}
