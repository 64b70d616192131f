package cover

import (
	"math/rand"
	"slices"
	"testing"

	"mutoscope/api"
)

// spoil writes into all of an answer, its spare room too.
func spoil(l []int) {
	whole := l[:cap(l)]
	for i := range whole {
		whole[i] = -12345
	}
}

// checkRow asks again behind an answer that is written into.
func checkRow(t *testing.T, l []api.Poly, rule, y, x0, x1 int, want []int) {
	t.Helper()
	given := guard(l)
	was := copied(given)
	for range 2 {
		got := Row(given, rule, y, x0, x1)
		if !slices.Equal(got, want) {
			t.Fatalf("P15.1: Row(%v, %d, %d, %d, %d): %v, want %v", l, rule, y, x0, x1, got, want)
		}
		spoil(got)
		if !alike(copied(given), was) {
			t.Fatalf("R2: Row(%v, %d, %d, %d, %d), or writing into its answer, changed what was handed in to %v", l, rule, y, x0, x1, copied(given))
		}
	}
	if got := Row(l, rule, y, x0, x1); !slices.Equal(got, want) {
		t.Fatalf("R5: Row(%v, %d, %d, %d, %d) without room behind it: %v, want %v", l, rule, y, x0, x1, got, want)
	}
	if got := Row(turned(l), rule, y, x0, x1); !slices.Equal(got, want) {
		t.Fatalf("P15.1: Row(%v, %d, %d, %d, %d) with each Closed turned: %v, want %v", l, rule, y, x0, x1, got, want)
	}
}

// times is a row of n same numbers.
func times(n, number int) []int { return slices.Repeat([]int{number}, n) }

func TestRowByHand(t *testing.T) {
	r := rect(one, 0, 3*one, one)
	tri := open(0, 0, 4*one, 0, 0, 4*one)
	over := list(part(0, 0, 8, 0, 20, 8), part(0, 0, 12, 0, 44, 8))
	for _, c := range []struct {
		l               []api.Poly
		rule, y, x0, x1 int
		want            []int
	}{
		{nil, 0, 0, 0, 3, []int{0, 0, 0}}, {list(), 1, 0, -1, 1, []int{0, 0}}, {list(api.Poly{}, open(0, 0), open(0, 0, one, one)), 0, 0, 0, 2, []int{0, 0}},
		// A rect, from ahead of it to behind it; parts of that; above and below it.
		{list(r), 0, 0, 0, 5, []int{0, 16, 16, 0, 0}}, {list(r), 0, 0, -3, 2, []int{0, 0, 0, 0, 16}}, {list(r), 0, 0, 1, 3, []int{16, 16}}, {list(r), 0, 0, 2, 5, []int{16, 0, 0}}, {list(r), 0, 0, 1, 2, []int{16}}, {list(r), 0, 0, 2, 3, []int{16}}, {list(r), 0, 0, 0, 1, []int{0}}, {list(r), 0, 0, 3, 4, []int{0}},
		{list(r), 0, -1, 0, 5, times(5, 0)}, {list(r), 0, 1, 0, 5, times(5, 0)}, {list(r), 0, 0, -200, -190, times(10, 0)}, {list(r), 0, 0, 190, 200, times(10, 0)},
		{list(back(r)), 0, 0, 0, 5, []int{0, 16, 16, 0, 0}}, {list(back(r)), 1, 0, 0, 5, []int{0, 16, 16, 0, 0}}, {list(r), 2, 0, 0, 5, times(5, 0)}, {list(r), -1, 0, 0, 5, times(5, 0)},
		// Slanted.
		{list(tri), 0, 0, -1, 5, []int{0, 16, 16, 16, 6, 0}}, {list(tri), 0, 1, -1, 5, []int{0, 16, 16, 6, 0, 0}}, {list(tri), 0, 2, -1, 5, []int{0, 16, 6, 0, 0, 0}}, {list(tri), 0, 3, -1, 5, []int{0, 6, 0, 0, 0, 0}}, {list(tri), 0, 4, -1, 5, times(6, 0)}, {list(tri), 1, 1, 1, 3, []int{16, 6}},
		// Two, one over the other.
		{over, 0, 0, 0, 7, []int{0, 16, 16, 16, 16, 8, 0}}, {over, 1, 0, 0, 7, []int{0, 8, 8, 16, 16, 8, 0}}, {over, 0, 0, 2, 4, []int{16, 16}}, {over, 1, 0, 1, 3, []int{8, 8}}, {list(over[0], back(over[1])), 0, 0, 0, 7, []int{0, 8, 8, 16, 16, 8, 0}},
		// By parts of the pixels.
		{list(part(0, 0, 3, 1, 29, 4)), 0, 0, -1, 5, []int{0, 6, 8, 8, 4, 0}}, {list(part(-4, -3, 3, 1, 29, 4)), 0, -3, -5, 1, []int{0, 6, 8, 8, 4, 0}},
	} {
		checkRow(t, c.l, c.rule, c.y, c.x0, c.x1, c.want)
	}
}

func TestRowBounds(t *testing.T) {
	whole := list(rect(least, least, most, most))
	for _, c := range []struct {
		y, x0, x1 int
		want      []int
	}{
		// x0 below x1 by one; at it; above it.
		{0, 3, 4, []int{16}}, {0, 3, 3, nil}, {0, 4, 3, nil}, {0, 0, 0, nil}, {0, 9, -9, nil}, {0, -1, 0, []int{16}}, {0, 0, -1, nil},
		// At, next to and past MaxSize.
		{0, -256, 256, times(512, 16)}, {0, -255, 255, times(510, 16)}, {0, -256, -255, []int{16}}, {0, 255, 256, []int{16}}, {0, 254, 255, []int{16}}, {0, 253, 256, times(3, 16)},
		{0, 256, 256, nil}, {0, -256, -256, nil}, {0, 256, 257, nil}, {0, 257, 258, nil}, {0, 255, 257, nil}, {0, 0, 257, nil}, {0, -257, -256, nil}, {0, -257, 0, nil}, {0, -258, -257, nil}, {0, -257, 257, nil}, {0, -256, 257, nil}, {0, -257, 256, nil}, {0, 256, 255, nil}, {0, -255, -256, nil}, {0, 256, -256, nil}, {0, 257, 256, nil}, {0, -256, -257, nil},
		// The ends of int, and numbers whose lower bits would do.
		{0, low, high, nil}, {0, high, low, nil}, {0, low, 0, nil}, {0, 0, high, nil}, {0, high, 0, nil}, {0, 0, low, nil}, {0, low, low, nil}, {0, high, high, nil}, {0, high - 1, high, nil}, {0, low, low + 1, nil}, {0, low, 256, nil}, {0, -256, high, nil},
		{0, 0, 1<<32 + 3, nil}, {0, 1 << 32, 1<<32 + 3, nil}, {0, -1 << 32, 3, nil}, {0, 1 << 32, 3, nil}, {0, 0, 512, nil}, {0, -512, 0, nil}, {0, 1 << 48, 1<<48 + 2, nil},
		// y at, next to and past its bounds: At is 0 past them.
		{256, 1, 3, []int{16, 16}}, {-256, 1, 3, []int{16, 16}}, {255, 1, 3, []int{16, 16}}, {-255, 1, 3, []int{16, 16}},
		{257, 1, 3, []int{0, 0}}, {-257, 1, 3, []int{0, 0}}, {258, 1, 3, []int{0, 0}}, {-258, 1, 3, []int{0, 0}}, {low, 1, 3, []int{0, 0}}, {high, 1, 3, []int{0, 0}}, {1 << 32, 1, 3, []int{0, 0}}, {-1 << 32, 1, 3, []int{0, 0}}, {1 << 48, 1, 3, []int{0, 0}}, {low + 1, 1, 3, []int{0, 0}}, {high - 1, 1, 3, []int{0, 0}}, {257, -256, 256, times(512, 0)},
		// Both past them.
		{257, 3, 3, nil}, {low, 4, 3, nil}, {high, low, high, nil}, {-257, 0, 257, nil}, {257, -257, 0, nil},
	} {
		checkRow(t, whole, api.NonZero, c.y, c.x0, c.x1, c.want)
		checkRow(t, whole, api.EvenOdd, c.y, c.x0, c.x1, c.want)
		checkRow(t, whole, 7, c.y, c.x0, c.x1, times(len(c.want), 0))
		checkRow(t, nil, api.NonZero, c.y, c.x0, c.x1, times(len(c.want), 0))
	}
	// With an edge in the first and last pixels.
	edges := list(part(-256, 0, 4, 0, 4096, 8))
	checkRow(t, edges, 0, 0, -256, -253, []int{8, 16, 16})
	checkRow(t, list(part(255, 0, -4096, 0, 4, 8)), 0, 0, 253, 256, []int{16, 16, 8})
}

// TestRowEachTwoEnds of a row that a few polys lie on.
func TestRowEachTwoEnds(t *testing.T) {
	l := list(part(0, 0, -20, -9, 11, 5), back(part(0, 0, 0, 0, 30, 8)), open(-3*one, 0, 4*one, one/2, 0, one))
	for _, rule := range []int{0, 1, 2} {
		for _, y := range []int{-1, 0, 257} {
			for x0 := -6; x0 < 8; x0++ {
				for x1 := -6; x1 < 8; x1++ {
					var want []int
					for x := x0; x < x1; x++ {
						want = append(want, wantAt(l, rule, x, y))
					}
					if got := Row(l, rule, y, x0, x1); !slices.Equal(got, want) {
						t.Fatalf("P15.1: Row(%v, %d, %d, %d, %d): %v, want %v", l, rule, y, x0, x1, got, want)
					}
				}
			}
		}
	}
}

// atEach is Row's answer by At; At has tests of its own.
func atEach(l []api.Poly, rule, y, x0, x1 int) []int {
	var out []int
	for x := x0; x < x1; x++ {
		out = append(out, At(l, rule, x, y))
	}
	return out
}

func TestRow(t *testing.T) {
	r := rand.New(rand.NewSource(155))
	rules := []int{0, 0, 0, 1, 1, 1, 2, -1}
	for range 6000 {
		l := somePolys(r, inPixels)
		rule, y, x0 := rules[r.Intn(len(rules))], r.Intn(8)-4, r.Intn(9)-5
		x1 := x0 + 1 + r.Intn(6)
		checkRow(t, l, rule, y, x0, x1, atEach(l, rule, y, x0, x1))
	}
}

// TestRowWide: of great polys, the whole row from bound to bound.
func TestRowWide(t *testing.T) {
	r := rand.New(rand.NewSource(156))
	number := func(r *rand.Rand) int64 {
		switch r.Intn(5) {
		case 0:
			return someNumber(r)
		case 1:
			return r.Int63n(2*far+1) - far
		}
		return r.Int63n(600*one) - 300*one
	}
	for range 120 {
		l := somePolys(r, number)
		y := r.Intn(520) - 260
		for rule := range 2 {
			checkRow(t, l, rule, y, -256, 256, atEach(l, rule, y, -256, 256))
		}
	}
}

// TestRowAtPlaces has sides that meet lines at their places, and one next to them.
func TestRowAtPlaces(t *testing.T) {
	r := rand.New(rand.NewSource(157))
	place := func() int64 { return (2*r.Int63n(24)-23)*eighth + r.Int63n(3)/2 - r.Int63n(3)/2 }
	for range 3000 {
		// From a place by a whole way, so that the side has places on it again and again.
		x, y := place(), place()
		dx, dy := (r.Int63n(9)-4)*eighth, (r.Int63n(9)-4)*eighth
		l := list(open(x-3*dx, y-3*dy, x+3*dx, y+3*dy, place(), place()), open(place(), y, place(), y, x, place()))
		row := r.Intn(6) - 3
		for rule := range 2 {
			checkRow(t, l, rule, row, -4, 4, atEach(l, rule, row, -4, 4))
		}
	}
}

// TestRowLater keeps several answers side by side: none of them may share memory with another one.
func TestRowLater(t *testing.T) {
	l := list(part(0, 0, 3, 1, 29, 4))
	first := Row(l, 0, 0, -1, 5)
	was := slices.Clone(first)
	spoil(Row(l, 0, 0, -1, 5))
	spoil(Row(l, 0, 1, -1, 5))
	spoil(Row(nil, 0, 0, -1, 5))
	if !slices.Equal(first, was) || !slices.Equal(Row(l, 0, 0, -1, 5), was) || !slices.Equal(Row(l, 0, 1, -1, 5), times(6, 0)) || !slices.Equal(Row(nil, 0, 0, -1, 5), times(6, 0)) {
		t.Errorf("R2: writing into an answer of Row changed another one: %v, want %v", first, was)
	}
	// The room behind an answer is its own too.
	_ = append(first, -12345)
	if !slices.Equal(Row(l, 0, 0, -1, 5), was) {
		t.Errorf("R2: writing behind an answer of Row changed a later one")
	}
}

// TestRowOfMany: lists that are long, and polys that are.
func TestRowOfMany(t *testing.T) {
	l := make([]api.Poly, 5000)
	for i := range l {
		l[i] = part(i%500-250, 0, 0, 0, 4, 8)
	}
	want := append(times(6, 0), append(times(500, 8), times(6, 0)...)...)
	checkRow(t, l, 0, 0, -256, 256, want)
	checkRow(t, l, 1, 0, -256, 256, times(512, 0))
	checkRow(t, l[:500], 1, 0, -256, 256, want)
	comb := api.Poly{P: make([]api.Point, 0, 1<<17)}
	for i := range int64(1 << 15) {
		comb.P = append(comb.P, points(0, -one, 0, 2*one, one, 2*one, one, -one-i)...)
	}
	checkRow(t, list(comb), 0, 0, -1, 2, []int{0, 16, 0})
	checkRow(t, list(comb), 1, 0, -1, 2, atEach(list(comb), 1, 0, -1, 2))
}
