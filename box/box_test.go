package box

import (
	"math"
	"math/rand"
	"slices"
	"testing"

	"mutoscope/api"
)

const (
	one   = int64(api.One)
	near  = int64(api.Near)
	far   = int64(api.Far)
	great = int64(api.Great)
	least = int64(math.MinInt64)
	most  = int64(math.MaxInt64)

	low  = math.MinInt
	high = math.MaxInt
)

func b(x0, y0, x1, y1 int) api.Box { return api.Box{X0: x0, Y0: y0, X1: x1, Y1: y1} }

var zero = api.Box{}

func TestEmptyByHand(t *testing.T) {
	for _, c := range []struct {
		b    api.Box
		want bool
	}{
		// Wide and high.
		{b(0, 0, 1, 1), false}, {b(0, 0, 9, 4), false}, {b(3, 5, 4, 6), false}, {b(-7, -9, -6, -8), false}, {b(-7, -9, 6, 8), false}, {b(-1, -1, 0, 0), false}, {b(-1, 0, 0, 1), false},
		// Of no width, of no height, of neither.
		{zero, true}, {b(3, 0, 3, 4), true}, {b(0, 4, 3, 4), true}, {b(-3, 0, -3, 4), true}, {b(0, -4, 3, -4), true}, {b(5, 7, 5, 7), true}, {b(0, 0, 0, 1), true}, {b(0, 0, 1, 0), true},
		// Turned round: one way, the other way, both ways.
		{b(4, 0, 3, 4), true}, {b(0, 4, 3, 3), true}, {b(4, 4, 3, 3), true}, {b(9, 0, -9, 4), true}, {b(0, 9, 3, -9), true}, {b(9, 9, -9, -9), true},
		// The ends of int.
		{b(low, low, high, high), false}, {b(low, low, low+1, low+1), false}, {b(high-1, high-1, high, high), false}, {b(low, 0, high, 1), false}, {b(0, low, 1, high), false}, {b(-1, -2, high, high), false}, {b(low, low, 0, 1), false},
		{b(high, low, low, high), true}, {b(low, high, high, low), true}, {b(high, high, low, low), true},
		{b(low, low, low, high), true}, {b(low, low, high, low), true}, {b(high, low, high, high), true}, {b(low, high, high, high), true},
		{b(0, 0, low, 1), true}, {b(0, 0, 1, low), true}, {b(high, 0, 0, 1), true}, {b(0, high, 1, 0), true}, {b(1, 0, low, 1), true}, {b(high, 0, -2, 1), true},
	} {
		if got := Empty(c.b); got != c.want {
			t.Errorf("P14.1: Empty(%v): %v", c.b, got)
		}
	}
}

func TestJoinAndMeetByHand(t *testing.T) {
	whole := b(low, low, high, high)
	for _, c := range []struct{ a, b, join, meet api.Box }{
		// Apart: on each side, and over the corners.
		{b(0, 0, 4, 4), b(6, 0, 8, 4), b(0, 0, 8, 4), zero},
		{b(0, 0, 4, 4), b(0, 6, 4, 8), b(0, 0, 4, 8), zero},
		{b(0, 0, 4, 4), b(6, 7, 8, 9), b(0, 0, 8, 9), zero},
		{b(0, 0, 4, 4), b(-8, 7, -6, 9), b(-8, 0, 4, 9), zero},
		{b(1, 1, 2, 2), b(-9, -9, -8, -8), b(-9, -9, 2, 2), zero},
		// They touch: a side, a corner.
		{b(0, 0, 4, 4), b(4, 0, 6, 4), b(0, 0, 6, 4), zero},
		{b(0, 0, 4, 4), b(1, 4, 3, 6), b(0, 0, 4, 6), zero},
		{b(0, 0, 4, 4), b(4, 4, 6, 6), b(0, 0, 6, 6), zero},
		{b(-3, -3, 0, 0), b(0, 0, 3, 3), b(-3, -3, 3, 3), zero},
		// They overlap: by a corner, a pixel, a side, crosswise.
		{b(0, 0, 4, 4), b(2, 2, 6, 6), b(0, 0, 6, 6), b(2, 2, 4, 4)},
		{b(0, 0, 4, 4), b(3, 3, 6, 6), b(0, 0, 6, 6), b(3, 3, 4, 4)},
		{b(0, 0, 4, 4), b(3, -9, 7, 1), b(0, -9, 7, 4), b(3, 0, 4, 1)},
		{b(0, 0, 4, 4), b(0, 2, 4, 9), b(0, 0, 4, 9), b(0, 2, 4, 4)},
		{b(-9, 2, 9, 4), b(1, -8, 3, 8), b(-9, -8, 9, 8), b(1, 2, 3, 4)},
		{b(-9, -7, -3, -2), b(-5, -4, -1, -1), b(-9, -7, -1, -1), b(-5, -4, -3, -2)},
		// One in the other, and the same.
		{b(0, 0, 9, 9), b(3, 4, 5, 6), b(0, 0, 9, 9), b(3, 4, 5, 6)},
		{b(0, 0, 9, 9), b(0, 0, 1, 1), b(0, 0, 9, 9), b(0, 0, 1, 1)},
		{b(-9, -9, 9, 9), b(8, 8, 9, 9), b(-9, -9, 9, 9), b(8, 8, 9, 9)},
		{b(2, 3, 4, 5), b(2, 3, 4, 5), b(2, 3, 4, 5), b(2, 3, 4, 5)},
		// One Empty: of no width, of no height, turned round, the zero box; within the other one, about it, apart from it.
		{b(0, 0, 9, 9), b(3, 3, 3, 6), b(0, 0, 9, 9), zero},
		{b(0, 0, 9, 9), b(3, 3, 6, 3), b(0, 0, 9, 9), zero},
		{b(0, 0, 9, 9), b(6, 3, 3, 6), b(0, 0, 9, 9), zero},
		{b(0, 0, 9, 9), b(3, 6, 6, 3), b(0, 0, 9, 9), zero},
		{b(0, 0, 9, 9), b(-5, 4, 50, 4), b(0, 0, 9, 9), zero},
		{b(0, 0, 9, 9), b(4, -5, 4, 50), b(0, 0, 9, 9), zero},
		{b(0, 0, 9, 9), b(50, 50, -50, -50), b(0, 0, 9, 9), zero},
		{b(3, 4, 5, 6), zero, b(3, 4, 5, 6), zero},
		{b(-3, -4, -1, -2), zero, b(-3, -4, -1, -2), zero},
		{b(3, 4, 5, 6), b(20, 20, 20, 30), b(3, 4, 5, 6), zero},
		{b(3, 4, 5, 6), b(5, 4, 3, 6), b(3, 4, 5, 6), zero},
		// Both Empty.
		{zero, zero, zero, zero},
		{zero, b(3, 4, 3, 9), zero, zero},
		{b(3, 4, 3, 9), b(3, 4, 3, 9), zero, zero},
		{b(3, 4, 3, 9), b(5, 4, 9, 4), zero, zero},
		{b(3, 9, 9, 3), b(9, 3, 3, 9), zero, zero},
		{b(9, 9, 3, 3), b(-2, -2, -3, -3), zero, zero},
		// The ends of int.
		{whole, whole, whole, whole},
		{whole, b(1, 2, 3, 4), whole, b(1, 2, 3, 4)},
		{whole, zero, whole, zero},
		{whole, b(high, high, low, low), whole, zero},
		{b(low, low, 0, 0), b(0, 0, high, high), whole, zero},
		{b(low, low, 1, 1), b(0, 0, high, high), whole, b(0, 0, 1, 1)},
		{b(low, low, low+1, low+1), b(high-1, high-1, high, high), whole, zero},
		{b(low, 0, high, 1), b(0, low, 1, high), whole, b(0, 0, 1, 1)},
		{b(low, 2, low+1, 3), b(low, 2, low+2, 9), b(low, 2, low+2, 9), b(low, 2, low+1, 3)},
		{b(high-1, 2, high, 3), b(high-2, 2, high, 9), b(high-2, 2, high, 9), b(high-1, 2, high, 3)},
		{b(high, low, low, high), b(low, high, high, low), zero, zero},
	} {
		for _, turn := range [][2]api.Box{{c.a, c.b}, {c.b, c.a}} {
			if got := Join(turn[0], turn[1]); got != c.join {
				t.Errorf("P14.1: Join(%v, %v): %v, want %v", turn[0], turn[1], got, c.join)
			}
			if got := Meet(turn[0], turn[1]); got != c.meet {
				t.Errorf("P14.1: Meet(%v, %v): %v, want %v", turn[0], turn[1], got, c.meet)
			}
		}
	}
}

func TestHasByHand(t *testing.T) {
	// Each corner, and next to it, inside and outside.
	in := b(-3, 5, 4, 9)
	for _, x := range []struct {
		x  int
		in bool
	}{{-5, false}, {-4, false}, {-3, true}, {-2, true}, {0, true}, {2, true}, {3, true}, {4, false}, {5, false}} {
		for _, y := range []struct {
			y  int
			in bool
		}{{3, false}, {4, false}, {5, true}, {6, true}, {7, true}, {8, true}, {9, false}, {10, false}} {
			if got := Has(in, x.x, y.y); got != (x.in && y.in) {
				t.Errorf("P14.1: Has(%v, %d, %d): %v", in, x.x, y.y, got)
			}
		}
	}
	for _, c := range []struct {
		b    api.Box
		x, y int
		want bool
	}{
		// One pixel alone.
		{b(0, 0, 1, 1), 0, 0, true}, {b(0, 0, 1, 1), 1, 0, false}, {b(0, 0, 1, 1), 0, 1, false}, {b(0, 0, 1, 1), -1, 0, false}, {b(0, 0, 1, 1), 0, -1, false},
		// Empty ones.
		{zero, 0, 0, false}, {b(3, 3, 3, 6), 3, 4, false}, {b(3, 3, 6, 3), 4, 3, false}, {b(6, 3, 3, 6), 4, 4, false}, {b(3, 6, 6, 3), 4, 4, false}, {b(6, 6, 3, 3), 4, 4, false}, {b(6, 6, 3, 3), 6, 6, false}, {b(6, 6, 3, 3), 3, 3, false},
		// The ends of int.
		{b(low, low, high, high), low, low, true}, {b(low, low, high, high), high - 1, high - 1, true}, {b(low, low, high, high), 0, -1, true},
		{b(low, low, high, high), high, 0, false}, {b(low, low, high, high), 0, high, false}, {b(low, low, high, high), high, high, false},
		{b(low+1, low+1, high, high), low, 0, false}, {b(low+1, low+1, high, high), 0, low, false}, {b(high, high, low, low), 0, 0, false},
		{b(0, 0, 4, 4), low, 1, false}, {b(0, 0, 4, 4), 1, low, false}, {b(0, 0, 4, 4), high, 1, false}, {b(0, 0, 4, 4), 1, high, false},
	} {
		if got := Has(c.b, c.x, c.y); got != c.want {
			t.Errorf("P14.1: Has(%v, %d, %d): %v", c.b, c.x, c.y, got)
		}
	}
}

// cells are the fields of a grid of five by five, a bit each: the i-th column goes from the i-th of six rising numbers up to the next one.
type cells uint32

const side = 5

// grid are all boxes whose four numbers are of l, six rising ones, and the cells that each has.
type grid struct {
	l     [side + 1]int
	boxes []api.Box
	has   []cells
	least map[cells]api.Box
}

// gridOf goes cell by cell, so that a box's cells come of no bounds that are held against each other.
func gridOf(l [side + 1]int) grid {
	g := grid{l: l, least: map[cells]api.Box{}}
	for n := range 6 * 6 * 6 * 6 {
		x0, y0, x1, y1 := n%6, n/6%6, n/36%6, n/216
		var has cells
		for x := x0; x < x1; x++ {
			for y := y0; y < y1; y++ {
				has |= 1 << (x + side*y)
			}
		}
		g.boxes = append(g.boxes, b(l[x0], l[y0], l[x1], l[y1]))
		g.has = append(g.has, has)
		if has != 0 {
			g.least[has] = b(l[x0], l[y0], l[x1], l[y1])
		}
	}
	return g
}

// round are the cells of the least box that has those.
func round(c cells) cells {
	var columns, rows cells
	for i := range cells(side * side) {
		if c>>i&1 == 1 {
			columns |= 1 << (i % side)
			rows |= 1 << (i / side)
		}
	}
	var out cells
	for i := range cells(side * side) {
		x, y := i%side, i/side
		if columns>>x != 0 && columns<<(31-x) != 0 && rows>>y != 0 && rows<<(31-y) != 0 {
			out |= 1 << i
		}
	}
	return out
}

func grids() []grid {
	out := []grid{
		gridOf([6]int{-2, -1, 0, 1, 2, 3}),
		gridOf([6]int{low, low + 1, -1, 0, high - 1, high}),
		gridOf([6]int{1, 2, 3, 4, 5, 6}),
		gridOf([6]int{-9, -7, -6, -3, -2, -1}),
	}
	r := rand.New(rand.NewSource(142))
	for range 2 {
		var l [6]int
		for i := range l {
			l[i] = int(r.Uint64()) >> r.Intn(60)
		}
		slices.Sort(l[:])
		out = append(out, gridOf(l))
	}
	return out
}

// TestGrid asks of all boxes of a grid, any two of them, Empty ones and turned ones too.
func TestGrid(t *testing.T) {
	rounds := map[cells]cells{}
	for _, g := range grids() {
		for i, a := range g.boxes {
			if got := Empty(a); got != (g.has[i] == 0) {
				t.Fatalf("P14.1: Empty(%v): %v", a, got)
			}
			for j, c := range g.boxes {
				all := g.has[i] | g.has[j]
				if _, ok := rounds[all]; !ok {
					rounds[all] = round(all)
				}
				// Of no cells both are the zero box, as it is what a map has for what it has not.
				if got, want := Join(a, c), g.least[rounds[all]]; got != want {
					t.Fatalf("P14.1: Join(%v, %v): %v, want %v", a, c, got, want)
				}
				if got, want := Meet(a, c), g.least[g.has[i]&g.has[j]]; got != want {
					t.Fatalf("P14.1: Meet(%v, %v): %v, want %v", a, c, got, want)
				}
			}
		}
	}
}

// TestGridHas asks for the first and the last pixel of each cell.
func TestGridHas(t *testing.T) {
	for _, g := range grids() {
		for i, a := range g.boxes {
			for c := range cells(side * side) {
				want := g.has[i]>>c&1 == 1
				x, y := c%side, c/side
				for _, px := range []int{g.l[x], g.l[x+1] - 1} {
					for _, py := range []int{g.l[y], g.l[y+1] - 1} {
						if got := Has(a, px, py); got != want {
							t.Fatalf("P14.1: Has(%v, %d, %d): %v", a, px, py, got)
						}
					}
				}
			}
			last := g.l[side]
			if Has(a, last, g.l[0]) || Has(a, g.l[0], last) || Has(a, last, last) {
				t.Fatalf("P14.1: Has(%v) of a pixel behind it", a)
			}
		}
	}
}
