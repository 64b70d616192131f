package cover

import (
	"math"
	"math/big"
	"math/rand"
	"slices"
	"testing"

	"mutoscope/api"
)

const (
	one   = int64(api.One)
	near  = int64(api.Near)
	far   = int64(api.Far)
	great = int64(api.Great)
	least = int64(math.MinInt64)
	most  = int64(math.MaxInt64)

	low  = math.MinInt
	high = math.MaxInt
)

func open(numbers ...int64) api.Poly { return api.Poly{P: points(numbers...)} }

func ring(numbers ...int64) api.Poly { return api.Poly{Closed: true, P: points(numbers...)} }

// points are the numbers in pairs.
func points(numbers ...int64) []api.Point {
	var out []api.Point
	for i := 0; i+1 < len(numbers); i += 2 {
		out = append(out, api.Point{X: numbers[i], Y: numbers[i+1]})
	}
	return out
}

// rect goes from x0, y0 along the X first: Wind is 1 within.
func rect(x0, y0, x1, y1 int64) api.Poly { return open(x0, y0, x1, y0, x1, y1, x0, y1) }

func back(p api.Poly) api.Poly {
	out := api.Poly{Closed: p.Closed, P: slices.Clone(p.P)}
	slices.Reverse(out.P)
	return out
}

func list(l ...api.Poly) []api.Poly { return l }

// The reckoning below is the chapter's in numbers without a size; by where a side meets the line y, not by a product.

func wantPlace(a int64) *big.Rat { return big.NewRat(min(max(a, -1<<29), 1<<29), 1) }

func wantSide(a, b api.Point, x, y int64) int {
	px, py := wantPlace(x), wantPlace(y)
	ax, ay, bx, by := wantPlace(a.X), wantPlace(a.Y), wantPlace(b.X), wantPlace(b.Y)
	up := ay.Cmp(py) <= 0 && by.Cmp(py) > 0
	down := by.Cmp(py) <= 0 && ay.Cmp(py) > 0
	if !up && !down {
		return 0
	}
	share := new(big.Rat).Quo(new(big.Rat).Sub(py, ay), new(big.Rat).Sub(by, ay))
	meets := new(big.Rat).Add(ax, share.Mul(share, new(big.Rat).Sub(bx, ax)))
	if meets.Cmp(px) <= 0 {
		return 0
	}
	if up {
		return 1
	}
	return -1
}

func wantWind(l []api.Poly, x, y int64) int {
	n := 0
	for _, p := range l {
		for i := range p.P {
			n += wantSide(p.P[i], p.P[(i+1)%len(p.P)], x, y)
		}
	}
	return n
}

// room are the polys, and the points, that stand behind a list's length: if they were read, each call would answer something else.
const room = 3

func guardPoints(l []api.Point) []api.Point {
	out := slices.Clone(l)
	for range room {
		out = append(out, api.Point{X: most, Y: most}, api.Point{X: most, Y: least}, api.Point{X: least, Y: 3})
	}
	return out[:len(l)]
}

func guard(l []api.Poly) []api.Poly {
	var out []api.Poly
	for _, p := range l {
		out = append(out, api.Poly{Closed: p.Closed, P: guardPoints(p.P)})
	}
	for range room {
		out = append(out, rect(-far, -far, far, far))
	}
	return out[:len(l)]
}

// turned is l with each Closed the other way: it may make no difference.
func turned(l []api.Poly) []api.Poly {
	out := guard(l)
	for i := range out {
		out[i].Closed = !out[i].Closed
	}
	return out
}

// copied is all of l, the room behind each list too, in memory of its own.
func copied(l []api.Poly) []api.Poly {
	out := slices.Clone(l[:cap(l)])
	for i, p := range out {
		out[i].P = slices.Clone(p.P[:cap(p.P)])
	}
	return out
}

func alike(a, b []api.Poly) bool {
	return slices.EqualFunc(a, b, func(a, b api.Poly) bool { return a.Closed == b.Closed && slices.Equal(a.P, b.P) })
}

// checkWind looks whether what is handed in, and the room behind it, stays as it was too.
func checkWind(t *testing.T, l []api.Poly, x, y int64, want int) {
	t.Helper()
	given := guard(l)
	was := copied(given)
	if got := Wind(given, x, y); got != want {
		t.Fatalf("P15.1: Wind(%v, %d, %d): %d, want %d", l, x, y, got, want)
	}
	if !alike(copied(given), was) {
		t.Fatalf("R2: Wind(%v, %d, %d) changed what was handed in to %v", l, x, y, copied(given))
	}
	if got := Wind(l, x, y); got != want {
		t.Fatalf("R5: Wind(%v, %d, %d) without room behind it: %d, want %d", l, x, y, got, want)
	}
	if got := Wind(turned(l), x, y); got != want {
		t.Fatalf("P15.1: Wind(%v, %d, %d) with each Closed turned: %d, want %d", l, x, y, got, want)
	}
}

// windCase: what Wind answers of polys at a place.
type windCase struct {
	l    []api.Poly
	x, y int64
	want int
}

// checkWinds holds the test's own reckoning to the numbers that stand there too.
func checkWinds(t *testing.T, l []windCase) {
	t.Helper()
	for i, c := range l {
		if got := wantWind(c.l, c.x, c.y); got != c.want {
			t.Fatalf("case %d: the test's own reckoning: %d, want %d", i, got, c.want)
		}
		checkWind(t, c.l, c.x, c.y, c.want)
	}
}

func TestWindOfNone(t *testing.T) {
	for _, l := range [][]api.Poly{
		nil,
		{},
		// Of no points, of one, of two, closed and open.
		{{}}, {{Closed: true}}, {{P: []api.Point{}}}, {{Closed: true, P: []api.Point{}}},
		{open(5, 5)}, {ring(5, 5)}, {open(0, 0)}, {ring(most, least)},
		{open(0, 0, 9, 9)}, {ring(0, 0, 9, 9)}, {open(9, 9, 0, 0)}, {ring(9, 0, 0, 9)}, {open(5, 0, 5, 9)}, {open(9, 5, 0, 5)}, {ring(5, 5, 5, 5)},
		{open(least, least, most, most)}, {ring(most, least, least, most)},
		// Of more, on one line, or at one place.
		{open(0, 0, 9, 9, 3, 3)}, {ring(9, 0, 0, 9, 4, 5, 7, 2)}, {open(5, 5, 5, 5, 5, 5)}, {ring(0, 5, 9, 5, 4, 5)},
		// There and back by the same places.
		{open(0, 0, 9, 2, 7, 9, 9, 2)},
		{{}, open(5, 5), ring(0, 0, 9, 9), {Closed: true}, open(1, 9, 9, 1)},
	} {
		for x := int64(-1); x < 11; x++ {
			for y := int64(-1); y < 11; y++ {
				checkWind(t, l, x, y, 0)
			}
		}
		for _, x := range []int64{least, -far - 1, -far, far, far + 1, most} {
			for _, y := range []int64{least, -far - 1, -far, far, far + 1, most} {
				checkWind(t, l, x, y, 0)
			}
		}
	}
}

func TestWindOfRect(t *testing.T) {
	for _, at := range []int64{0, -7, 1000 * one, -1000 * one, near, far - 6000, 6000 - far} {
		r := rect(at, at, at+10, at+10)
		b := back(r)
		var l []windCase
		for _, c := range []struct {
			x, y int64
			want int
		}{
			// Within.
			{5, 5, 1}, {1, 1, 1}, {9, 9, 1}, {1, 9, 1}, {9, 1, 1},
			// On the sides: the ones of the least X and Y are within, the others are not; and next to each.
			{0, 5, 1}, {-1, 5, 0}, {10, 5, 0}, {11, 5, 0},
			{5, 0, 1}, {5, -1, 0}, {5, 10, 0}, {5, 11, 0},
			// On the corners, and next to them.
			{0, 0, 1}, {-1, 0, 0}, {0, -1, 0}, {-1, -1, 0},
			{10, 0, 0}, {9, 0, 1}, {10, 1, 0}, {10, -1, 0}, {11, 0, 0},
			{0, 10, 0}, {0, 9, 1}, {1, 10, 0}, {0, 11, 0}, {-1, 10, 0},
			{10, 10, 0}, {9, 10, 0}, {10, 9, 0}, {11, 11, 0},
			// Level with the corners, to each side.
			{-20, 0, 0}, {20, 0, 0}, {-20, 10, 0}, {20, 10, 0}, {0, -20, 0}, {0, 20, 0}, {10, -20, 0}, {10, 20, 0},
			// Far outside.
			{-5000, 5, 0}, {5000, 5, 0}, {5, -5000, 0}, {5, 5000, 0}, {-5000, -5000, 0}, {5000, 5000, 0},
		} {
			l = append(l, windCase{list(r), at + c.x, at + c.y, c.want}, windCase{list(b), at + c.x, at + c.y, -c.want})
		}
		checkWinds(t, l)
	}
}

func TestWindOfSlantedSides(t *testing.T) {
	// A quarter turn of a square: corners below, right, above, left.
	d := open(0, -4, 4, 0, 0, 4, -4, 0)
	tall := open(0, 0, 3, 7, -2, 9)
	checkWinds(t, []windCase{
		{list(d), 0, 0, 1}, {list(back(d)), 0, 0, -1},
		// On each side, and next to it.
		{list(d), -2, -2, 1}, {list(d), -3, -2, 0}, {list(d), -2, -3, 0}, {list(d), -1, -2, 1},
		{list(d), 2, -2, 0}, {list(d), 1, -2, 1}, {list(d), 3, -2, 0}, {list(d), 2, -1, 1},
		{list(d), 2, 2, 0}, {list(d), 1, 2, 1}, {list(d), 2, 1, 1}, {list(d), 3, 2, 0},
		{list(d), -2, 2, 1}, {list(d), -3, 2, 0}, {list(d), -2, 3, 0}, {list(d), -1, 2, 1},
		// On its corners, level with them, and next to them.
		{list(d), 0, -4, 0}, {list(d), -1, -4, 0}, {list(d), -9, -4, 0}, {list(d), 0, -3, 1}, {list(d), 0, -5, 0},
		{list(d), 4, 0, 0}, {list(d), 3, 0, 1}, {list(d), 5, 0, 0}, {list(d), 9, 0, 0},
		{list(d), 0, 4, 0}, {list(d), -1, 4, 0}, {list(d), 0, 3, 1}, {list(d), 0, 5, 0}, {list(d), -9, 4, 0},
		{list(d), -4, 0, 1}, {list(d), -5, 0, 0}, {list(d), -3, 0, 1}, {list(d), -9, 0, 0},
		// A side that passes between whole numbers: 3 by 7, at 2 by 6 sevenths, and at 2 by 4.
		{list(tall), 2, 6, 1}, {list(tall), 3, 6, 0}, {list(tall), 1, 4, 1}, {list(tall), 2, 4, 0}, {list(tall), 2, 5, 1},
		{list(back(tall)), 2, 6, -1}, {list(back(tall)), 3, 6, 0}, {list(back(tall)), 1, 4, -1}, {list(back(tall)), 2, 4, 0},
		{list(tall), -2, 8, 0}, {list(tall), -1, 8, 1}, {list(tall), 0, 8, 1}, {list(tall), 1, 8, 0},
		{list(tall), 0, 0, 0}, {list(tall), -1, 0, 0}, {list(tall), 0, 1, 1}, {list(tall), -1, 1, 0}, {list(tall), 1, 1, 0},
		{list(tall), -2, 9, 0}, {list(tall), -3, 9, 0}, {list(tall), 3, 7, 0}, {list(tall), 2, 7, 1}, {list(tall), -9, 7, 0},
	})
}

func TestWindOfCornersOnTheLine(t *testing.T) {
	// Two tips up, and one down between them, all level with y 4.
	w := open(0, 0, 12, 0, 9, 4, 6, 1, 3, 4)
	// A step: a level side within the way up.
	step := open(0, 0, 8, 0, 8, 4, 5, 4, 5, 8, 0, 8)
	// A level side at a tip, and doubled points.
	flat := open(2, 0, 2, 0, 6, 0, 6, 0, 8, 4, 0, 4, 0, 4)
	checkWinds(t, []windCase{
		{list(w), 3, 4, 0}, {list(w), 2, 4, 0}, {list(w), 9, 4, 0}, {list(w), 6, 4, 0}, {list(w), -5, 4, 0}, {list(w), 3, 3, 1}, {list(w), 9, 3, 1}, {list(w), 6, 3, 0}, {list(w), 6, 1, 1}, {list(w), 5, 1, 1}, {list(w), 7, 1, 1}, {list(w), 6, 0, 1}, {list(w), 0, 0, 1}, {list(w), 12, 0, 0}, {list(w), 11, 0, 1}, {list(w), -3, 1, 0}, {list(w), -1, 0, 0},
		{list(step), 4, 4, 1}, {list(step), 5, 4, 0}, {list(step), 6, 4, 0}, {list(step), 7, 4, 0}, {list(step), 8, 4, 0}, {list(step), 6, 3, 1}, {list(step), 6, 5, 0}, {list(step), 4, 5, 1}, {list(step), 0, 4, 1}, {list(step), -1, 4, 0}, {list(step), 9, 4, 0}, {list(step), 4, 8, 0}, {list(step), 7, 3, 1}, {list(step), 8, 3, 0},
		{list(back(step)), 4, 4, -1}, {list(back(step)), 5, 4, 0}, {list(back(step)), 6, 4, 0}, {list(back(step)), 6, 3, -1}, {list(back(step)), -1, 4, 0},
		{list(flat), 2, 0, 1}, {list(flat), 1, 0, 0}, {list(flat), 5, 0, 1}, {list(flat), 6, 0, 0}, {list(flat), -3, 0, 0}, {list(flat), 1, 2, 1}, {list(flat), 0, 2, 0}, {list(flat), 6, 2, 1}, {list(flat), 7, 2, 0}, {list(flat), 4, 4, 0}, {list(flat), 0, 4, 0}, {list(flat), -1, 4, 0},
	})
}

func TestWindOfSeveral(t *testing.T) {
	r, in := rect(0, 0, 10, 10), rect(3, 3, 7, 7)
	// Twice round, and an eight: one half each way.
	twice := open(0, 0, 10, 0, 10, 10, 0, 10, 0, 0, 10, 0, 10, 10, 0, 10)
	eight := open(0, 0, 8, 8, 0, 8, 8, 0)
	checkWinds(t, []windCase{
		{list(r, r), 5, 5, 2}, {list(r, r, r), 5, 5, 3}, {list(back(r), back(r)), 5, 5, -2}, {list(r, back(r)), 5, 5, 0}, {list(back(r), r, r), 5, 5, 1}, {list(r, back(r), back(r)), 5, 5, -1},
		{list(r, in), 5, 5, 2}, {list(r, in), 1, 5, 1}, {list(r, back(in)), 5, 5, 0}, {list(r, back(in)), 1, 5, 1}, {list(back(r), in), 5, 5, 0}, {list(back(r), in), 8, 5, -1}, {list(back(r), back(in)), 5, 5, -2},
		{list(r, in), 3, 3, 2}, {list(r, in), 7, 7, 1}, {list(r, back(in)), 3, 3, 0}, {list(r, back(in)), 7, 3, 1}, {list(r, in), 10, 3, 0}, {list(r, in), -1, 3, 0},
		// Next to each other, over each other by a part, apart.
		{list(r, rect(10, 0, 20, 10)), 9, 5, 1}, {list(r, rect(10, 0, 20, 10)), 10, 5, 1}, {list(r, rect(10, 0, 20, 10)), 20, 5, 0}, {list(r, rect(0, 10, 10, 20)), 5, 10, 1}, {list(r, rect(0, 10, 10, 20)), 5, 9, 1},
		{list(r, rect(5, 5, 15, 15)), 4, 4, 1}, {list(r, rect(5, 5, 15, 15)), 5, 5, 2}, {list(r, rect(5, 5, 15, 15)), 12, 12, 1}, {list(r, rect(5, 5, 15, 15)), 12, 4, 0},
		{list(r, rect(40, 0, 50, 10)), 5, 5, 1}, {list(r, rect(40, 0, 50, 10)), 30, 5, 0}, {list(r, rect(40, 0, 50, 10)), 45, 5, 1},
		{list(twice), 5, 5, 2}, {list(back(twice)), 5, 5, -2}, {list(twice, back(r)), 5, 5, 1}, {list(twice), 0, 0, 2}, {list(twice), 10, 5, 0},
		{list(eight), 4, 2, -1}, {list(eight), 4, 6, 1}, {list(back(eight)), 4, 2, 1}, {list(back(eight)), 4, 6, -1}, {list(eight), 4, 4, 0}, {list(eight), 1, 4, 0}, {list(eight), 7, 4, 0}, {list(eight), 3, 3, -1}, {list(eight), 2, 3, 0}, {list(eight), 3, 5, 1}, {list(eight), 4, 0, -1}, {list(eight), 4, 8, 0},
		// With polys of no number between.
		{list(api.Poly{}, open(5, 5), r, open(0, 0, 9, 9), back(in), ring(5, 5)), 1, 5, 1},
		{list(api.Poly{}, open(5, 5), r, open(0, 0, 9, 9), back(in), ring(5, 5)), 5, 5, 0},
	})
	// Each number of times.
	for n := range 40 {
		var l []api.Poly
		for range n {
			l = append(l, r)
		}
		checkWind(t, l, 5, 5, n)
		checkWind(t, append(l, back(in), back(in)), 5, 5, n-2)
	}
}

func TestWindFarAway(t *testing.T) {
	whole := rect(least, least, most, most)
	hold := rect(-far, -far, far, far)
	// Its upper tip is held from great to far, so that its slanted sides lie elsewhere than unheld ones.
	tip := open(-far, 0, far, 0, 0, great)
	wide := open(0, -far, great, 0, 0, far)
	checkWinds(t, []windCase{
		{list(whole), 0, 0, 1}, {list(back(whole)), 0, 0, -1}, {list(whole), -1, -1, 1}, {list(whole), far - 1, far - 1, 1}, {list(whole), -far, -far, 1}, {list(whole), least, least, 1}, {list(whole), least, 7, 1}, {list(whole), 7, least, 1},
		{list(whole), far, 0, 0}, {list(whole), 0, far, 0}, {list(whole), far + 1, 0, 0}, {list(whole), most, 0, 0}, {list(whole), 0, most, 0}, {list(whole), most, most, 0}, {list(whole), most, least, 0}, {list(whole), least, most, 0},
		{list(hold), -far, 0, 1}, {list(hold), -far - 1, 0, 1}, {list(hold), least, 0, 1}, {list(hold), 0, least, 1}, {list(hold), far - 1, 0, 1}, {list(hold), far, 0, 0}, {list(hold), most, 0, 0}, {list(hold), 0, far - 1, 1}, {list(hold), 0, far, 0}, {list(hold), 0, most, 0},
		{list(rect(1-far, 1-far, far-1, far-1)), least, 0, 0}, {list(rect(1-far, 1-far, far-1, far-1)), 1 - far, 0, 1}, {list(rect(1-far, 1-far, far-1, far-1)), far - 2, 0, 1}, {list(rect(1-far, 1-far, far-1, far-1)), 0, least, 0}, {list(rect(1-far, 1-far, far-1, far-1)), 0, 1 - far, 1},
		// All held to one side, or to one place.
		{list(rect(far+5, 0, most, 10)), far + 7, 5, 0}, {list(rect(far+5, 0, most, 10)), 5, 5, 0}, {list(rect(0, far+5, 10, most)), 5, far + 7, 0}, {list(rect(far, far, most, most)), far, far, 0}, {list(rect(least, least, -far, -far)), -far, -far, 0}, {list(rect(least, 0, 1-far, 10)), -far, 5, 1}, {list(rect(least, 0, 1-far, 10)), 1 - far, 5, 0},
		{list(tip), far / 2, far/2 - 1, 1}, {list(tip), far / 2, far / 2, 0}, {list(tip), -far / 2, far / 2, 1}, {list(tip), -far/2 - 1, far / 2, 0}, {list(tip), far / 2, far/2 + 1, 0}, {list(tip), 0, far - 1, 1}, {list(tip), 0, far, 0}, {list(tip), 0, most, 0}, {list(tip), far - 1, 0, 1},
		{list(wide), far - 1, 0, 1}, {list(wide), far, 0, 0}, {list(wide), far / 2, far/2 - 1, 1}, {list(wide), far / 2, far / 2, 0}, {list(wide), far / 2, -far / 2, 0}, {list(wide), far/2 - 1, -far / 2, 1}, {list(wide), most, 0, 0}, {list(wide), 0, least, 0}, {list(wide), 0, 1 - far, 1},
		// The greatest products there are: at the corners, to each side of the slanted side.
		{list(open(-far, -far, far, far, -far, far)), -far, far - 1, 1}, {list(open(-far, -far, far, far, -far, far)), far - 1, far - 1, 0}, {list(open(-far, -far, far, far, -far, far)), far - 2, far - 1, 1}, {list(open(-far, -far, far, far, -far, far)), far, -far, 0}, {list(open(-far, -far, far, far, -far, far)), -far, -far, 0}, {list(open(-far, -far, far, far, -far, far)), -far, 1 - far, 1},
		{list(open(far, -far, far, far, -far, far)), far, far, 0}, {list(open(far, -far, far, far, -far, far)), 1 - far, far - 1, 1}, {list(open(far, -far, far, far, -far, far)), -far, far - 1, 0}, {list(open(far, -far, far, far, -far, far)), far - 1, -far, 0}, {list(open(far, -far, far, far, -far, far)), far - 1, 1 - far, 1}, {list(open(far, -far, far, far, -far, far)), far - 2, 1 - far, 0},
		{list(open(most, least, least, most, least, least)), 0, 0, 0}, {list(open(most, least, least, most, least, least)), -1, 0, 1}, {list(open(most, least, least, least, least, most)), -1, 0, -1}, {list(open(most, least, least, most, least, least)), 0, -1, 1},
	})
}

// TestWindOfAllTriangles: with doubled points and those on one line, at each place of a grid that has all corners, and places between them.
func TestWindOfAllTriangles(t *testing.T) {
	grid := func(n int) (int64, int64) { return int64(n%3)*2 - 2, int64(n/3%3)*3 - 3 }
	for n := range 9 * 9 * 9 {
		x0, y0 := grid(n)
		x1, y1 := grid(n / 9)
		x2, y2 := grid(n / 81)
		l := list(open(x0, y0, x1, y1, x2, y2))
		for x := int64(-3); x <= 3; x++ {
			for y := int64(-4); y <= 4; y++ {
				if got, want := Wind(l, x, y), wantWind(l, x, y); got != want {
					t.Fatalf("P15.1: Wind(%v, %d, %d): %d, want %d", l, x, y, got, want)
				}
			}
		}
	}
}

// someNumber is small mostly, so that places meet sides and corners; or next to a bound, or of any size.
func someNumber(r *rand.Rand) int64 {
	switch r.Intn(12) {
	case 0:
		bounds := []int64{least, -great, -far, -near, -one, one, near, far, great, most}
		// At the ends of int64 one more or less may go round: it is a number all the same.
		return bounds[r.Intn(len(bounds))] + int64(r.Intn(3)-1)
	case 1:
		return int64(r.Uint64()) >> r.Intn(64)
	case 2:
		return r.Int63n(2*far+1) - far
	}
	return int64(r.Intn(9) - 4)
}

func somePolys(r *rand.Rand, number func(*rand.Rand) int64) []api.Poly {
	var l []api.Poly
	for range r.Intn(5) {
		p := api.Poly{Closed: r.Intn(2) == 0}
		for range r.Intn(8) {
			p.P = append(p.P, api.Point{X: number(r), Y: number(r)})
		}
		l = append(l, p)
	}
	return l
}

func TestWind(t *testing.T) {
	r := rand.New(rand.NewSource(151))
	for range 6000 {
		l := somePolys(r, someNumber)
		x, y := someNumber(r), someNumber(r)
		checkWind(t, l, x, y, wantWind(l, x, y))
	}
}

// TestWindNextToSides asks where a side of any size meets a line, and next to it: all bits of the products count there.
func TestWindNextToSides(t *testing.T) {
	r := rand.New(rand.NewSource(152))
	number := func(r *rand.Rand) int64 { return (r.Int63n(2*far+1) - far) >> r.Intn(30) }
	for range 3000 {
		a, b := api.Point{X: number(r), Y: number(r)}, api.Point{X: number(r), Y: number(r)}
		if a.Y == b.Y {
			continue
		}
		l := list(api.Poly{P: []api.Point{a, b, {X: number(r), Y: number(r)}}})
		y := min(a.Y, b.Y) + r.Int63n(max(a.Y, b.Y)-min(a.Y, b.Y))
		meets := a.X + (b.X-a.X)*(y-a.Y)/(b.Y-a.Y)
		for x := meets - 2; x <= meets+2; x++ {
			checkWind(t, l, x, y, wantWind(l, x, y))
		}
	}
}

// TestWindOfMany: lists that are long, and polys that are.
func TestWindOfMany(t *testing.T) {
	l := make([]api.Poly, 5000)
	for i := range l {
		l[i] = rect(int64(-i), int64(-i), one, one)
	}
	checkWind(t, l, 0, 0, 5000)
	checkWind(t, l, -4000, -1, 1000)
	p := api.Poly{P: make([]api.Point, 1<<18)}
	for i := range p.P {
		p.P[i] = rect(0, 0, 10, 10).P[i%4]
	}
	checkWind(t, list(p), 5, 5, 1<<16)
	checkWind(t, list(back(p)), 5, 5, -1<<16)
}
