package dash

import (
	"math/rand"
	"slices"
	"testing"

	"mutoscope/api"
	"mutoscope/arc"
)

// checkOf looks whether what is handed in stays as it was too, also when the answer is written into, and whether lists of the answer share memory.
func checkOf(t *testing.T, p api.Poly, l []int64, want []api.Poly) {
	t.Helper()
	poly, polyChanged := guardPoly(p)
	numbers, numbersChanged := guardNumbers(l)
	got := Of(poly, numbers)
	if !alike(got, want) {
		t.Fatalf("P11.1: Of(%v, %v): %v, want %v", brief(p.P), l, told(got), told(want))
	}
	if polyChanged() || numbersChanged() {
		t.Fatalf("R2: Of(%v, %v) changed what was handed in to %v, %v", brief(p.P), l, brief(poly.P), numbers)
	}
	if shared(got) {
		t.Fatalf("R2: two lists of Of(%v, %v) share memory", brief(p.P), l)
	}
	if polyChanged() || numbersChanged() {
		t.Fatalf("R2: writing into Of(%v, %v) changed what was handed in to %v, %v", brief(p.P), l, brief(poly.P), numbers)
	}
}

// brief and told keep what a failing test says short.
func brief(l []api.Point) []api.Point { return l[:min(len(l), 12)] }

func told(l []api.Poly) []api.Poly {
	out := slices.Clone(l[:min(len(l), 70)])
	for i := range out {
		out[i].P = brief(out[i].P)
	}
	return out
}

// lines are open polys along y 0, from each first to each second number, times One.
func lines(ends ...int64) []api.Poly {
	var out []api.Poly
	for l := range slices.Chunk(ends, 2) {
		out = append(out, open(l[0]*one, 0, l[1]*one, 0))
	}
	return out
}

// bar goes from 0 along y 0 for that long, on one side.
func bar(length int64) api.Poly { return open(0, 0, length, 0) }

// marked goes along y 0 with a stop at each One between its ends: shares of such sides are exact.
func marked(from, to int64) api.Poly {
	out := open(from, 0)
	for x := from - from%one + one; x < to; x += one {
		out.P = append(out.P, at(x, 0))
	}
	out.P = append(out.P, at(to, 0))
	return out
}

// stretches are such lines, from each first to each second number.
func stretches(ends ...int64) []api.Poly {
	var out []api.Poly
	for l := range slices.Chunk(ends, 2) {
		out = append(out, marked(l[0], l[1]))
	}
	return out
}

// rows are open polys of these points, times One.
func rows(l ...[]int64) []api.Poly {
	var out []api.Poly
	for _, numbers := range l {
		out = append(out, open(ones(numbers...)...))
	}
	return out
}

// zigzag goes to and fro n times, from side to side of all places.
func zigzag(n int, ends bool) api.Poly {
	p := api.Poly{Closed: ends}
	for i := range n + 1 {
		p.P = append(p.P, at(int64(i%2*2-1)*far, 0))
	}
	return p
}

// allSorts: polys of no point to many, of sides and of none, at and past bounds.
func allSorts() []api.Poly {
	room := points(0, 0, 5*one, 0, 9*one, 9*one)
	var out []api.Poly
	for _, l := range [][]api.Point{
		nil, {}, room[:0], room[:1], room[:2], room,
		points(0, 0), points(5, -6), points(most, least),
		points(3, 3, 3, 3), points(-one, 2, -one, 2, -one, 2), points(far, least, far+1, -far, most, -great),
		points(0, 0, 1, 0), points(0, 0, 16*one, 0), points(0, 0, 3*one, 4*one),
		points(0, 0, 0, 0, 4*one, 0, 4*one, 0, 4*one, 4*one, 4*one, 4*one),
		points(0, 0, 4*one, 0, 4*one, 4*one, 0, 4*one), points(0, 0, 4*one, 0, 0, 0),
		points(least, most, most, least), points(far+1, -far-1, great, -great, great+1, 7),
		zigzag(1500, false).P,
	} {
		out = append(out, api.Poly{P: l}, api.Poly{Closed: true, P: l})
	}
	return out
}

// Without numbers, or with wrong ones, it is p as it was given: what arc would make open, hold or leave out, too.
func TestOfAlone(t *testing.T) {
	behind := ones(2, 3)
	for _, p := range allSorts() {
		want := []api.Poly{{Closed: p.Closed, P: slices.Clone(p.P)}}
		for _, l := range append(badLists(), nil, []int64{}, behind[:0]) {
			checkOf(t, p, l, want)
		}
		if got := Of(p, nil); len(got) != 1 || !like(got[0], want[0]) {
			t.Errorf("P11.1: Of(%v, nil): %v", brief(p.P), told(got))
		}
		if got := Of(p, behind[:0]); len(got) != 1 || !like(got[0], want[0]) {
			t.Errorf("R5: Of(%v, no numbers, with room behind): %v", brief(p.P), told(got))
		}
	}
	if !slices.Equal(behind, ones(2, 3)) {
		t.Errorf("R5: Of changed the room behind its numbers: %v", behind)
	}
}

// A line without length has no dashes: none begins below it.
func TestOfNoLength(t *testing.T) {
	for _, p := range allSorts() {
		if arc.Length(p) > 0 {
			continue
		}
		for _, l := range [][]int64{{one}, {near}, {one, near}, ones(2, 3), ones(1, 2, 3), ones(1, 2, 3, 4, 5, 6, 7, 8)} {
			checkOf(t, p, l, nil)
		}
	}
}

func TestOfOneSide(t *testing.T) {
	line := bar(16 * one)
	for _, c := range []struct {
		l    []int64
		want []api.Poly
	}{
		// The chapter's run.
		{ones(2, 3), lines(0, 2, 5, 7, 10, 12, 15, 16)},
		// One number: dash and gap are as long.
		{ones(1), lines(0, 1, 2, 3, 4, 5, 6, 7, 8, 9, 10, 11, 12, 13, 14, 15)},
		{ones(2), lines(0, 2, 4, 6, 8, 10, 12, 14)}, {ones(3), lines(0, 3, 6, 9, 12, 15)}, {ones(5), lines(0, 5, 10, 15)}, {ones(7), lines(0, 7, 14, 16)},
		{ones(8), lines(0, 8)}, {ones(15), lines(0, 15)}, {ones(16), lines(0, 16)}, {ones(17), lines(0, 16)}, {ones(1024), lines(0, 16)},
		// Two: the first is the dash.
		{ones(3, 2), lines(0, 3, 5, 8, 10, 13, 15, 16)}, {ones(4, 5), lines(0, 4, 9, 13)}, {ones(1, 7), lines(0, 1, 8, 9)}, {ones(7, 1), lines(0, 7, 8, 15)},
		{ones(8, 8), lines(0, 8)}, {ones(15, 1), lines(0, 15)}, {ones(1, 15), lines(0, 1)}, {ones(1, 14), lines(0, 1, 15, 16)}, {ones(20, 1), lines(0, 16)}, {ones(1, 1024), lines(0, 1)}, {ones(1024, 1024), lines(0, 16)},
		// An end past the line's, at it, ahead of it.
		{ones(6, 6), lines(0, 6, 12, 16)}, {ones(6, 4), lines(0, 6, 10, 16)}, {ones(6, 3), lines(0, 6, 9, 15)},
		// Three: dash and gap change places each round.
		{ones(1, 1, 2), lines(0, 1, 2, 4, 5, 6, 8, 9, 10, 12, 13, 14)}, {ones(1, 2, 3), lines(0, 1, 3, 6, 7, 9, 12, 13, 15, 16)}, {ones(3, 2, 1), lines(0, 3, 5, 6, 9, 11, 12, 15)}, {ones(2, 4, 1), lines(0, 2, 6, 7, 9, 13, 14, 16)}, {ones(5, 5, 5), lines(0, 5, 10, 15)},
		// Four and more.
		{ones(1, 2, 3, 4), lines(0, 1, 3, 6, 10, 11, 13, 16)}, {ones(4, 3, 2, 1), lines(0, 4, 7, 9, 10, 14)}, {ones(1, 2, 1, 3), lines(0, 1, 3, 4, 7, 8, 10, 11, 14, 15)},
		{ones(1, 2, 1, 1, 1), lines(0, 1, 3, 4, 5, 6, 7, 9, 10, 11, 12, 13, 15, 16)}, {ones(1, 1, 1, 2, 2, 1), lines(0, 1, 2, 3, 5, 7, 8, 9, 10, 11, 13, 15)},
		{ones(1, 1, 1, 1, 1, 1, 2), lines(0, 1, 2, 3, 4, 5, 6, 8, 9, 10, 11, 12, 13, 14)}, {ones(1, 1, 1, 1, 1, 1, 1, 4), lines(0, 1, 2, 3, 4, 5, 6, 7, 11, 12, 13, 14, 15, 16)}, {ones(1, 2, 3, 4, 5, 6, 7, 8), lines(0, 1, 3, 6, 10, 15)},
	} {
		checkOf(t, line, c.l, c.want)
	}
	// Numbers that are not whole are taken as they are.
	checkOf(t, line, []int64{one + one/2, 5 * one}, []api.Poly{open(0, 0, 98304, 0), open(425984, 0, 524288, 0), open(851968, 0, 950272, 0)})
	rule := marked(0, 16*one)
	checkOf(t, rule, []int64{one + 1, 15*one - 2}, stretches(0, one+1, 16*one-1, 16*one))
	checkOf(t, rule, []int64{one + 1, 15*one - 1}, stretches(0, one+1))
	checkOf(t, rule, []int64{5*one + 7, one + 1}, stretches(0, 5*one+7, 6*one+8, 11*one+15, 12*one+16, 16*one))
}

// The 2 - 3 dashes of a line that ends round where the second one begins and ends.
func TestOfEnd(t *testing.T) {
	for _, c := range []struct {
		length int64
		want   []api.Poly
	}{
		{1, stretches(0, 1)}, {2, stretches(0, 2)}, {one, stretches(0, one)},
		{2*one - 1, stretches(0, 2*one-1)}, {2 * one, stretches(0, 2*one)}, {2*one + 1, stretches(0, 2*one)}, {3 * one, stretches(0, 2*one)},
		{5*one - 1, stretches(0, 2*one)}, {5 * one, stretches(0, 2*one)},
		{5*one + 1, stretches(0, 2*one, 5*one, 5*one+1)}, {5*one + 2, stretches(0, 2*one, 5*one, 5*one+2)},
		{7*one - 1, stretches(0, 2*one, 5*one, 7*one-1)}, {7 * one, stretches(0, 2*one, 5*one, 7*one)}, {7*one + 1, stretches(0, 2*one, 5*one, 7*one)},
		{10*one - 1, stretches(0, 2*one, 5*one, 7*one)}, {10 * one, stretches(0, 2*one, 5*one, 7*one)}, {10*one + 1, stretches(0, 2*one, 5*one, 7*one, 10*one, 10*one+1)},
	} {
		checkOf(t, marked(0, c.length), ones(2, 3), c.want)
	}
}

// A line of which the length is rounded down, and places on it too.
func TestOfSlanting(t *testing.T) {
	// 5 One long; a fifth is 13107 of 65536.
	checkOf(t, open(0, 0, 3*one, 4*one), ones(1), []api.Poly{
		open(0, 0, 39321, 52428), open(78642, 104856, 117963, 157284), open(157284, 209712, 3*one, 4*one),
	})
	checkOf(t, open(0, 0, -3*one, 4*one), ones(1, 3), []api.Poly{
		open(0, 0, -39321, 52428), open(-157284, 209712, -3*one, 4*one),
	})
	// Between One and One + 1 long: no second dash begins, though the exact length is past it.
	if arc.Length(open(0, 0, one, 1)) != one || arc.Length(open(0, 0, 2*one, 1)) != 2*one {
		t.Fatal("the lines are of another length")
	}
	checkOf(t, open(0, 0, one, 1), ones(1), []api.Poly{open(0, 0, one, 1)})
	checkOf(t, open(0, 0, 2*one, 1), ones(1), []api.Poly{open(0, 0, one, 0)})
}

func TestOfSeveralSides(t *testing.T) {
	corners := ones(0, 0, 4, 0, 4, 4, 0, 4)
	for _, c := range []struct {
		l            []int64
		open, closed []api.Poly
	}{
		// 12 long, and 16: an end at a corner,
		{ones(4), rows([]int64{0, 0, 4, 0}, []int64{4, 4, 0, 4}), rows([]int64{0, 0, 4, 0}, []int64{4, 4, 0, 4})},
		{ones(4, 2), rows([]int64{0, 0, 4, 0}, []int64{4, 2, 4, 4, 2, 4}), rows([]int64{0, 0, 4, 0}, []int64{4, 2, 4, 4, 2, 4}, []int64{0, 4, 0, 0})},
		{ones(8, 4), rows([]int64{0, 0, 4, 0, 4, 4}), rows([]int64{0, 0, 4, 0, 4, 4}, []int64{0, 4, 0, 0})},
		// a beginning at one,
		{ones(2), rows([]int64{0, 0, 2, 0}, []int64{4, 0, 4, 2}, []int64{4, 4, 2, 4}), rows([]int64{0, 0, 2, 0}, []int64{4, 0, 4, 2}, []int64{4, 4, 2, 4}, []int64{0, 4, 0, 2})},
		{ones(3, 1), rows([]int64{0, 0, 3, 0}, []int64{4, 0, 4, 3}, []int64{4, 4, 1, 4}), rows([]int64{0, 0, 3, 0}, []int64{4, 0, 4, 3}, []int64{4, 4, 1, 4}, []int64{0, 4, 0, 1})},
		// round corners, one and several,
		{ones(6, 2), rows([]int64{0, 0, 4, 0, 4, 2}, []int64{4, 4, 0, 4}), rows([]int64{0, 0, 4, 0, 4, 2}, []int64{4, 4, 0, 4, 0, 2})},
		{ones(1, 2, 7), rows([]int64{0, 0, 1, 0}, []int64{3, 0, 4, 0, 4, 4, 2, 4}, []int64{1, 4, 0, 4}), rows([]int64{0, 0, 1, 0}, []int64{3, 0, 4, 0, 4, 4, 2, 4}, []int64{1, 4, 0, 4, 0, 3})},
		{ones(11, 1), rows([]int64{0, 0, 4, 0, 4, 4, 1, 4}), rows([]int64{0, 0, 4, 0, 4, 4, 1, 4}, []int64{0, 4, 0, 0})},
		// to the end, past it, just ahead of it: a closed one ends where it began, and is open.
		{ones(12, 1), rows([]int64{0, 0, 4, 0, 4, 4, 0, 4}), rows([]int64{0, 0, 4, 0, 4, 4, 0, 4}, []int64{0, 3, 0, 0})},
		{ones(15, 1), rows([]int64{0, 0, 4, 0, 4, 4, 0, 4}), rows([]int64{0, 0, 4, 0, 4, 4, 0, 4, 0, 1})},
		{ones(16), rows([]int64{0, 0, 4, 0, 4, 4, 0, 4}), rows([]int64{0, 0, 4, 0, 4, 4, 0, 4, 0, 0})},
		{[]int64{near}, rows([]int64{0, 0, 4, 0, 4, 4, 0, 4}), rows([]int64{0, 0, 4, 0, 4, 4, 0, 4, 0, 0})},
	} {
		checkOf(t, open(corners...), c.l, c.open)
		checkOf(t, closed(corners...), c.l, c.closed)
	}
}

func TestOfTwoPointsClosed(t *testing.T) {
	there := closed(0, 0, 4*one, 0)
	checkOf(t, there, ones(3, 2), rows([]int64{0, 0, 3, 0}, []int64{3, 0, 0, 0}))
	checkOf(t, there, ones(3, 4), rows([]int64{0, 0, 3, 0}, []int64{1, 0, 0, 0}))
	checkOf(t, there, ones(3), rows([]int64{0, 0, 3, 0}, []int64{2, 0, 0, 0}))
	checkOf(t, there, ones(6, 1), rows([]int64{0, 0, 4, 0, 2, 0}, []int64{1, 0, 0, 0}))
	checkOf(t, there, ones(8), rows([]int64{0, 0, 4, 0, 0, 0}))
}

// Places one behind the other are passed by, but where p alone is told.
func TestOfEqualPlaces(t *testing.T) {
	p := open(ones(0, 0, 0, 0, 4, 0, 4, 0, 4, 0, 4, 4, 4, 4)...)
	checkOf(t, p, nil, []api.Poly{p})
	checkOf(t, p, []int64{one - 1}, []api.Poly{p})
	checkOf(t, p, ones(8), rows([]int64{0, 0, 4, 0, 4, 4}))
	checkOf(t, p, ones(4), rows([]int64{0, 0, 4, 0}))
	checkOf(t, p, ones(3, 1), rows([]int64{0, 0, 3, 0}, []int64{4, 0, 4, 3}))
	checkOf(t, p, ones(1, 2), rows([]int64{0, 0, 1, 0}, []int64{3, 0, 4, 0}, []int64{4, 2, 4, 3}))
	// The side from the last point to the first may be one without length.
	ring := closed(ones(0, 0, 4, 0, 4, 0, 0, 0)...)
	checkOf(t, ring, nil, []api.Poly{ring})
	checkOf(t, ring, ones(3), rows([]int64{0, 0, 3, 0}, []int64{2, 0, 0, 0}))
	checkOf(t, ring, ones(8, 1), rows([]int64{0, 0, 4, 0, 0, 0}))
}

// Each way is 16 Near long, there and back.
func TestOfPlacesPastBounds(t *testing.T) {
	there, back := evens(-far, far), evens(far, -far)
	for _, p := range [][]api.Point{
		points(-far, 5, far, 5), points(-far-1, 5, far+1, 5), points(-great, 5, great, 5), points(least, 5, most, 5), points(least, 5, -far-9, 5, most, 5, far, 5),
	} {
		line, ring := api.Poly{P: p}, api.Poly{Closed: true, P: p}
		for n := 1; n <= 8; n++ {
			l := slices.Repeat([]int64{near}, n)
			checkOf(t, line, l, there)
			checkOf(t, ring, l, slices.Concat(there, back))
		}
		for _, l := range [][]int64{nil, {near + 1}, {near, 2 * near}, {most, least}} {
			checkOf(t, line, l, []api.Poly{line})
			checkOf(t, ring, l, []api.Poly{ring})
		}
	}
	checkOf(t, open(far-4*one, least, most, -far-1), ones(2, 1), []api.Poly{open(far-4*one, -far, far-2*one, -far), open(far-one, -far, far, -far)})
	checkOf(t, open(far-4*one, least, most, -far-1), ones(3), []api.Poly{open(far-4*one, -far, far-one, -far)})
}

// evens are the dashes of Near, with gaps as long, of the way from a to b along y 5.
func evens(a, b int64) []api.Poly {
	step := near
	if b < a {
		step = -near
	}
	var out []api.Poly
	for x := a; x != b; x += 2 * step {
		out = append(out, open(x, 5, x+step, 5))
	}
	return out
}

// At most 64 dashes, from the beginning on, whatever is left of the line.
func TestOfMost(t *testing.T) {
	if Most != 64 {
		t.Fatalf("P11.1: Most: %d", Most)
	}
	dashes := func(n int64) []api.Poly {
		var out []api.Poly
		for k := range n {
			out = append(out, lines(3*k, 3*k+1)...)
		}
		return out
	}
	l := ones(1, 2)
	for _, c := range []struct {
		length int64
		want   []api.Poly
	}{
		{186 * one, dashes(62)}, {186*one + 1, append(dashes(62), open(186*one, 0, 186*one+1, 0))}, {189 * one, dashes(63)},
		{189*one + 1, append(dashes(63), open(189*one, 0, 189*one+1, 0))}, {190*one - 1, append(dashes(63), open(189*one, 0, 190*one-1, 0))},
		{190 * one, dashes(64)}, {190*one + 1, dashes(64)}, {191 * one, dashes(64)}, {192*one - 1, dashes(64)}, {192 * one, dashes(64)},
		{192*one + 1, dashes(64)}, {193 * one, dashes(64)}, {195 * one, dashes(64)}, {196 * one, dashes(64)}, {1024 * one, dashes(64)}, {far, dashes(64)},
	} {
		checkOf(t, marked(0, c.length), l, c.want)
	}
	for _, length := range []int64{256 * one, 1024 * one, far, far + 1, most} {
		checkOf(t, bar(length), l, dashes(64))
	}
}

// The count is of dashes, whatever the count of numbers.
func TestOfMostNumbers(t *testing.T) {
	for n := 1; n <= 8; n++ {
		var l []int64
		for i := range n {
			l = append(l, int64(i%3+1)*one)
		}
		want := wantOf(marked(0, far), l)
		if len(want) != 64 {
			t.Fatalf("of %v %d dashes", l, len(want))
		}
		checkOf(t, marked(0, far), l, want)
		// Just as many, when the line ends at the last one's end, and next to its beginning.
		last := want[63].P
		begin, end := last[0].X, last[len(last)-1].X
		checkOf(t, marked(0, end), l, want)
		checkOf(t, marked(0, begin+1), l, append(slices.Clone(want[:63]), open(begin, 0, begin+1, 0)))
		checkOf(t, marked(0, begin), l, want[:63])
	}
	// A number alone is dash and gap, and of an odd count two rounds are one of twice as many.
	checkOf(t, bar(far), ones(1), wantOf(bar(far), ones(1, 1)))
	checkOf(t, bar(far), ones(2, 1, 2), wantOf(bar(far), ones(2, 1, 2, 2, 1, 2)))
}

// Each side is 2^30 long, which is 16 Near: of more than 1024 sides the length is Great.
func TestOfLongLines(t *testing.T) {
	for _, ends := range []bool{false, true} {
		for _, n := range []int{1023, 1024, 1025, 3000} {
			p := zigzag(n, ends)
			if n > 1024 && arc.Length(p) != great {
				t.Fatalf("the line is %d long", arc.Length(p))
			}
			checkOf(t, p, nil, []api.Poly{p})
			checkOf(t, p, []int64{near + 1}, []api.Poly{p})
			var want []api.Poly
			for k := range int64(64) {
				a, b := folded(2*k*near), folded((2*k+1)*near)
				want = append(want, open(a, 0, b, 0))
			}
			checkOf(t, p, []int64{near}, want)
			checkOf(t, p, []int64{near, near}, want)
			checkOf(t, p, []int64{near - 1}, wantOf(p, []int64{near - 1}))
			checkOf(t, p, []int64{near, one, near}, wantOf(p, []int64{near, one, near}))
		}
	}
	// Each dash begins a bit later in its side: the 16th goes round the first corner.
	got := Of(zigzag(3000, false), []int64{near, one})
	if len(got) != 64 || len(got[15].P) != 3 || got[15].P[1] != at(far, 0) || got[15].P[0] != at(-far+15*near+15*one, 0) || got[15].P[2] != at(far-15*one, 0) {
		t.Errorf("P11.1: the dash round the first corner: %v", told(got))
	}
}

// folded is where zigzag is when it has gone d.
func folded(d int64) int64 {
	side, rest := d>>30, d&(1<<30-1)
	if side%2 == 0 {
		return rest - far
	}
	return far - rest
}

func TestOfManyPoints(t *testing.T) {
	p := api.Poly{P: make([]api.Point, 1<<19)}
	for i := range p.P {
		p.P[i].X = int64(i)
	}
	// 8 One less 1 long.
	checkOf(t, p, ones(2, 3), []api.Poly{{P: p.P[:2*one+1]}, {P: p.P[5*one : 7*one+1]}})
	checkOf(t, p, ones(3, 4), []api.Poly{{P: p.P[:3*one+1]}, {P: p.P[7*one:]}})
	checkOf(t, p, ones(1024), []api.Poly{p})
	checkOf(t, p, ones(0), []api.Poly{p})
	// And back to the first place, on one side.
	p.Closed = true
	checkOf(t, p, nil, []api.Poly{p})
	checkOf(t, p, ones(9, 6), wantOf(p, ones(9, 6)))
	checkOf(t, p, ones(1), wantOf(p, ones(1)))
}

// unitWalk goes n steps of One along the axes; a closed one goes the same way back.
func unitWalk(r *rand.Rand, n int, ends bool) api.Poly {
	x, y := r.Int63n(200)-100, r.Int63n(200)-100
	p := api.Poly{Closed: ends, P: points(x*one, y*one)}
	steps := points(one, 0, 0, one, -one, 0, 0, -one)
	way := r.Intn(4)
	for range n {
		if r.Intn(3) == 0 {
			way = (way + 1 + 2*r.Intn(2)) % 4
		}
		last := p.P[len(p.P)-1]
		p.P = append(p.P, at(last.X+steps[way].X, last.Y+steps[way].Y))
	}
	if ends {
		// But for its two ends, so that the last side, back to the first point, is a step too.
		for i := len(p.P) - 2; i > 0; i-- {
			p.P = append(p.P, p.P[i])
		}
	}
	return p
}

// wantSteps counts the steps off one by one; with whole numbers each dash is a row of whole steps.
func wantSteps(p api.Poly, l []int64) []api.Poly {
	stops := slices.Clone(p.P)
	if p.Closed {
		stops = append(stops, p.P[0])
	}
	var out []api.Poly
	drawing, which, left := true, 0, l[0]
	for i := 1; i < len(stops); i++ {
		if drawing && left == l[which] {
			if len(out) == 64 {
				break
			}
			out = append(out, api.Poly{P: []api.Point{stops[i-1]}})
		}
		if drawing {
			out[len(out)-1].P = append(out[len(out)-1].P, stops[i])
		}
		if left -= one; left == 0 {
			drawing, which = !drawing, (which+1)%len(l)
			left = l[which]
		}
	}
	return out
}

func TestOfUnitWalks(t *testing.T) {
	r := rand.New(rand.NewSource(112))
	fullest := 0
	for range 6000 {
		p := unitWalk(r, 1+r.Intn(300), r.Intn(2) == 0)
		l := make([]int64, 1+r.Intn(8))
		for i := range l {
			l[i] = (1 + r.Int63n(int64(1)<<r.Intn(6))) * one
		}
		want := wantSteps(p, l)
		if len(want) == 64 {
			fullest++
		}
		checkOf(t, p, l, want)
	}
	if fullest < 100 {
		t.Errorf("only %d walks have 64 dashes", fullest)
	}
}

// somePoly has few points, some of them one behind the other, near each other or anywhere.
func somePoly(r *rand.Rand, list []int64) api.Poly {
	p := api.Poly{Closed: r.Intn(2) == 0}
	kind := r.Intn(4)
	for range r.Intn(9) {
		switch n := len(p.P); {
		case n > 0 && r.Intn(4) == 0:
			p.P = append(p.P, p.P[n-1])
		case kind == 0:
			p.P = append(p.P, at(r.Int63n(60)-30, r.Int63n(60)-30))
		case kind == 1:
			p.P = append(p.P, at(list[r.Intn(len(list))], list[r.Intn(len(list))]))
		case kind == 2:
			p.P = append(p.P, at(int64(r.Uint64())>>r.Intn(63), int64(r.Uint64())>>r.Intn(63)))
		default:
			p.P = append(p.P, at(r.Int63n(40*one)-20*one, r.Int63n(40*one)-20*one))
		}
	}
	return p
}

// someNumbers are right, mostly: small ones, any, and edges.
func someNumbers(r *rand.Rand, list []int64) []int64 {
	l := make([]int64, r.Intn(10))
	for i := range l {
		switch r.Intn(40) {
		case 0:
			l[i] = list[r.Intn(len(list))]
		case 1, 2, 3, 4:
			l[i] = one + r.Int63n(near-one+1)
		case 5, 6:
			l[i] = rights()[r.Intn(len(rights()))]
		default:
			l[i] = one + r.Int63n(one<<r.Intn(6))
		}
	}
	return l
}

func TestOf(t *testing.T) {
	r, list := rand.New(rand.NewSource(113)), edges()
	for range 20000 {
		p, l := somePoly(r, list), someNumbers(r, list)
		checkOf(t, p, l, wantOf(p, l))
	}
}

// Each sort of line with each number at each place.
func TestOfRoundEdges(t *testing.T) {
	for _, p := range append(allSorts(), open(0, 0, near, 0, near, near), closed(0, 0, near+one, 1, one, near)) {
		// A long one with so many numbers takes its time, and shows no more.
		if len(p.P) > 100 {
			continue
		}
		for _, n := range append(rights(), wrongs()...) {
			for _, l := range [][]int64{{n}, {n, one}, {one, n}, {2 * one, 3 * one, n}, {2 * one, n, 3 * one}, append(slices.Repeat(ones(5), 7), n)} {
				checkOf(t, p, l, wantOf(p, l))
			}
		}
	}
}

// Each dash is as long as its number, and open; of a round of five each number is a dash once in two rounds.
func TestOfLengths(t *testing.T) {
	got := Of(closed(ones(0, 0, 16, 0, 16, 16, 0, 16)...), ones(3, 1, 2, 5, 4))
	var lengths []int64
	for _, x := range got {
		lengths = append(lengths, arc.Length(x))
		if x.Closed {
			t.Errorf("P11.1: a dash is closed: %v", x)
		}
	}
	if want := ones(3, 2, 4, 1, 5, 3, 2, 4, 1, 5, 3); !slices.Equal(lengths, want) {
		t.Errorf("P11.1: the dashes are %v long, want %v", lengths, want)
	}
}

// R4: nil and empty lists mean the same.
func TestOfNilLists(t *testing.T) {
	for _, ends := range []bool{false, true} {
		for _, l := range [][]int64{nil, {}, {0}, {one}, ones(2, 3)} {
			a, b := Of(api.Poly{Closed: ends}, l), Of(api.Poly{Closed: ends, P: []api.Point{}}, l)
			if !alike(a, b) {
				t.Errorf("R4: Of with nil %v, with an empty list %v", a, b)
			}
		}
		p := api.Poly{Closed: ends, P: points(0, 0, 9*one, 0)}
		if a, b := Of(p, nil), Of(p, []int64{}); !alike(a, b) {
			t.Errorf("R4: Of with nil numbers %v, with none %v", a, b)
		}
	}
}

// R5: points behind a list's length are none of the poly's, numbers behind it none of the dashes'.
func TestRoomBehind(t *testing.T) {
	p := points(0, 0, 4*one, 0, 4*one, 4*one, most, least)
	l := append(ones(2, 1, 3, 1, 2, 1, 3, 1), 0, 1, near+1)
	for _, c := range []struct {
		points, numbers int
		want            []api.Poly
	}{
		{0, 0, []api.Poly{{}}}, {1, 0, []api.Poly{open(0, 0)}}, {2, 0, []api.Poly{open(0, 0, 4*one, 0)}}, {0, 1, nil}, {1, 1, nil}, {0, 2, nil}, {1, 8, nil},
		{2, 1, lines(0, 2)}, {2, 2, lines(0, 2, 3, 4)}, {2, 9, []api.Poly{open(0, 0, 4*one, 0)}},
		{3, 1, rows([]int64{0, 0, 2, 0}, []int64{4, 0, 4, 2})}, {3, 2, rows([]int64{0, 0, 2, 0}, []int64{3, 0, 4, 0, 4, 1}, []int64{4, 2, 4, 4})}, {3, 8, rows([]int64{0, 0, 2, 0}, []int64{3, 0, 4, 0, 4, 2}, []int64{4, 3, 4, 4})},
	} {
		if got := Of(api.Poly{P: p[:c.points]}, l[:c.numbers]); !alike(got, c.want) {
			t.Errorf("R5: Of %d points, %d numbers with room behind: %v, want %v", c.points, c.numbers, got, c.want)
		}
	}
	if !slices.Equal(p, points(0, 0, 4*one, 0, 4*one, 4*one, most, least)) || !slices.Equal(l, append(ones(2, 1, 3, 1, 2, 1, 3, 1), 0, 1, near+1)) {
		t.Errorf("R2: Of changed the room behind a list: %v, %v", p, l)
	}
}

// No two lists of one answer share memory: neither writing into one nor adding to it reaches another.
func TestOwnLists(t *testing.T) {
	p := closed(ones(0, 0, 4, 0, 4, 4, 0, 4)...)
	for _, l := range [][]int64{nil, {0}, ones(1), ones(2, 3), ones(6, 1), ones(1, 1, 2)} {
		want := wantOf(p, l)
		for i := range want {
			got := Of(p, l)
			fill(got[i].P, at(-123456789, 987654321))
			got[i].P = append(got[i].P, at(8, 8))
			for j := range want {
				if j != i && !like(got[j], want[j]) {
					t.Errorf("R2: Of %v: writing into list %d changed list %d to %v", l, i, j, got[j])
				}
			}
		}
	}
	if !like(p, closed(ones(0, 0, 4, 0, 4, 4, 0, 4)...)) {
		t.Errorf("R2: the poly that was handed in became %v", p)
	}
}

// R2, R4: what was answered stands, whatever is written into what was handed in, and is answered again.
func TestAnswersStand(t *testing.T) {
	for _, numbers := range [][]int64{nil, {0}, {near + 1, one}, ones(1), ones(2, 3), ones(16), ones(1, 1, 2)} {
		p, l := closed(ones(0, 0, 4, 0, 4, 4, 0, 4)...), slices.Clone(numbers)
		want := wantOf(p, l)
		got, again := Of(p, l), Of(p, l)
		fill(p.P, at(-123456789, 987654321))
		for i := range l {
			l[i] = -7
		}
		if !alike(got, want) || !alike(again, want) {
			t.Errorf("R2: Of %v was kept: %v, %v, want %v", numbers, got, again, want)
		}
		if shared(got); !alike(again, want) {
			t.Errorf("R2: two answers of Of %v share memory: %v", numbers, again)
		}
	}
}
