package stroke

import (
	"math"
	"math/big"
	"math/rand"
	"slices"
	"testing"

	"mutoscope/api"
)

// The reckoning below is the chapter's; it calls nothing of q and arc, and goes from corner to corner where the package goes from side to side.

// down is a by b, rounded down; b is above 0.
func down(a, b int64) int64 {
	rest := ((a % b) + b) % b
	return (a - rest) / b
}

func wantHyp(x, y int64) int64 {
	sum := new(big.Int).Add(big.NewInt(x*x), big.NewInt(y*y))
	return sum.Sqrt(sum).Int64()
}

// wantCorners are p's places, each that is as the one ahead of it left out; of a closed one the first comes last again.
func wantCorners(p api.Poly) []api.Point {
	var out []api.Point
	for _, a := range p.P {
		out = append(out, wantPlace(a))
	}
	if p.Closed && len(out) > 0 {
		out = append(out, out[0])
	}
	return slices.Compact(out)
}

// wantWays are, from each corner to the next, half the width along the side and across it.
func wantWays(corners []api.Point, h int64) (along, across []api.Point) {
	for i := 1; i < len(corners); i++ {
		dx, dy := corners[i].X-corners[i-1].X, corners[i].Y-corners[i-1].Y
		l := wantHyp(dx, dy)
		u, v := down(dx<<16, l), down(dy<<16, l)
		along = append(along, at(down(u*h, 1<<16), down(v*h, 1<<16)))
		across = append(across, at(down(-v*h, 1<<16), down(u*h, 1<<16)))
	}
	return along, across
}

// moved is a, n times by b further.
func moved(a api.Point, n int64, b api.Point) api.Point { return at(a.X+n*b.X, a.Y+n*b.Y) }

func ring(l ...api.Point) api.Poly {
	for i := range l {
		l[i] = wantPlace(l[i])
	}
	return api.Poly{Closed: true, P: wantTurned(l)}
}

func wantOf(p api.Poly, width int64, ends int) []api.Poly {
	h := min(max(down(width, 2), 0), 1<<26)
	if h == 0 {
		return nil
	}
	corners := wantCorners(p)
	along, across := wantWays(corners, h)
	n := len(along)
	var bars, between []api.Poly
	for i := range n {
		a, b, o := corners[i], corners[i+1], across[i]
		if ends == 1 && !p.Closed && i == 0 {
			a = moved(a, -1, along[0])
		}
		if ends == 1 && !p.Closed && i == n-1 {
			b = moved(b, 1, along[n-1])
		}
		bars = append(bars, ring(moved(a, 1, o), moved(b, 1, o), moved(b, -1, o), moved(a, -1, o)))
	}
	for i := 1; i <= n; i++ {
		if i == n && !p.Closed {
			break
		}
		v, x, y := corners[i], across[i-1], across[i%n]
		between = append(between, ring(v, moved(v, 1, x), moved(v, 1, y)), ring(v, moved(v, -1, x), moved(v, -1, y)))
	}
	return append(bars, between...)
}

func like(a, b api.Poly) bool { return a.Closed == b.Closed && slices.Equal(a.P, b.P) }

func alike(a, b []api.Poly) bool { return slices.EqualFunc(a, b, like) }

// shared writes into all of an answer, its spare room too, and says whether a list of it was written into through another one.
func shared(l []api.Poly) bool {
	for i, p := range l {
		fill(p.P, at(int64(i), -int64(i)-1))
	}
	for i, p := range l {
		if !filled(p.P, at(int64(i), -int64(i)-1)) {
			return true
		}
	}
	whole := l[:cap(l)]
	for i := range whole {
		whole[i] = open(9, 9)
	}
	return false
}

// told keeps what a failing test says short.
func told(l []api.Poly) []api.Poly { return l[:min(len(l), 40)] }

// checkOf looks whether what is handed in stays as it was too, also when the answer is written into, and whether lists of the answer share memory.
func checkOf(t *testing.T, p api.Poly, width int64, ends int, want []api.Poly) {
	t.Helper()
	given, changed := guard(p.P)
	got := Of(api.Poly{Closed: p.Closed, P: given}, width, ends)
	if !alike(got, want) {
		t.Fatalf("P12.2: Of(%v, closed %v, width %d, cap %d): %v, want %v", brief(p.P), p.Closed, width, ends, told(got), told(want))
	}
	for _, x := range got {
		if wantArea(x.P) < 0 {
			t.Fatalf("P12.2: Of(%v, closed %v, width %d, cap %d): %v goes round backwards", brief(p.P), p.Closed, width, ends, x)
		}
	}
	if changed() {
		t.Fatalf("R2: Of(%v, width %d) changed what was handed in to %v", brief(p.P), width, brief(given))
	}
	if shared(got) {
		t.Fatalf("R2: two lists of Of(%v, width %d) share memory", brief(p.P), width)
	}
	if changed() {
		t.Fatalf("R2: writing into Of(%v, width %d) changed what was handed in to %v", brief(p.P), width, brief(given))
	}
}

// rings are closed polys of these points.
func rings(l ...[]int64) []api.Poly {
	var out []api.Poly
	for _, numbers := range l {
		out = append(out, closed(numbers...))
	}
	return out
}

// oneRings are closed polys of these points, times One.
func oneRings(l ...[]int64) []api.Poly {
	var out []api.Poly
	for _, numbers := range l {
		out = append(out, closed(ones(numbers...)...))
	}
	return out
}

// otherCaps: all of them mean that no end is moved.
func otherCaps() []int {
	var out []int
	for _, n := range []int64{0, 2, 3, -1, -2, 255, 257, 1<<16 + 1, 1<<32 + 1, 1 - 1<<32, one, math.MaxInt64, math.MinInt64, math.MinInt64 + 1} {
		out = append(out, int(n))
	}
	return out
}

// noSides: polys without a side that has a length.
func noSides() []api.Poly {
	room := points(0, 0, 5*one, 0, 9*one, 9*one)
	var out []api.Poly
	for _, l := range [][]api.Point{
		nil, {}, room[:0], room[:1], points(5, -6), points(most, least),
		points(3, 3, 3, 3), points(-one, 2, -one, 2, -one, 2), slices.Repeat(points(7, 7), 50),
		// They fall together where they are held.
		points(far, least, far+1, -far, most, -great), points(far+1, 5, far+2, 5), points(least, 0, -far, 0, -great, 0, -far-1, 0),
	} {
		out = append(out, api.Poly{P: l}, api.Poly{Closed: true, P: l})
	}
	return out
}

// noWidths: those of which no half is left.
func noWidths() []int64 {
	return []int64{1, 0, -1, -2, -3, -one, -2 * one, -2 * near, -great, -1 << 32, -1<<32 + 2, least + 1, least}
}

func TestOfNoWidth(t *testing.T) {
	for _, width := range noWidths() {
		for _, ends := range append(otherCaps(), 1) {
			for _, p := range append(noSides(), open(0, 0, 9, 0), closed(0, 0, 9, 0), closed(0, 0, 9, 0, 9, 9), open(-far, -far, far, far)) {
				checkOf(t, p, width, ends, nil)
			}
		}
	}
}

func TestOfNoSide(t *testing.T) {
	for _, p := range noSides() {
		for _, ends := range append(otherCaps(), 1) {
			for _, width := range []int64{1, 2, 3, 2 * one, 2 * near, most, 0, -1, least} {
				checkOf(t, p, width, ends, nil)
			}
		}
	}
}

// Half of the width, rounded down, and Near at most.
func TestOfWidth(t *testing.T) {
	for _, c := range []struct{ width, h int64 }{
		{2, 1}, {3, 1}, {4, 2}, {5, 2}, {6, 3}, {7, 3}, {one, one / 2}, {2*one - 1, one - 1}, {2 * one, one}, {2*one + 1, one}, {2*one + 2, one + 1}, {near, near / 2},
		{2*near - 3, near - 2}, {2*near - 2, near - 1}, {2*near - 1, near - 1}, {2 * near, near}, {2*near + 1, near}, {2*near + 2, near}, {2*near + 3, near}, {4 * near, near},
		{far, near}, {1 << 32, near}, {1<<32 + 2, near}, {1 << 33, near}, {great, near}, {great + 1, near}, {1 << 62, near}, {most - 1, near}, {most, near},
	} {
		h := c.h
		for _, ends := range otherCaps() {
			checkOf(t, open(0, 0, 10*one, 0), c.width, ends, rings([]int64{0, -h, 10 * one, -h, 10 * one, h, 0, h}))
		}
		checkOf(t, open(0, 0, 10*one, 0), c.width, 1, rings([]int64{-h, -h, 10*one + h, -h, 10*one + h, h, -h, h}))
		checkOf(t, open(0, 0, 0, 10*one), c.width, 0, rings([]int64{h, 0, h, 10 * one, -h, 10 * one, -h, 0}))
		checkOf(t, open(0, 0, 0, 10*one), c.width, 1, rings([]int64{h, -h, h, 10*one + h, -h, 10*one + h, -h, -h}))
	}
}

// One side, in each of four ways: turned, its bar begins at the beginning less o.
func TestOfOneSide(t *testing.T) {
	for _, c := range []struct {
		p     api.Poly
		plain []int64
		long  []int64
	}{
		{open(ones(0, 0, 10, 0)...), ones(0, -1, 10, -1, 10, 1, 0, 1), ones(-1, -1, 11, -1, 11, 1, -1, 1)},
		{open(ones(10, 0, 0, 0)...), ones(10, 1, 0, 1, 0, -1, 10, -1), ones(11, 1, -1, 1, -1, -1, 11, -1)},
		{open(ones(3, 4, 3, 9)...), ones(4, 4, 4, 9, 2, 9, 2, 4), ones(4, 3, 4, 10, 2, 10, 2, 3)},
		{open(ones(3, 9, 3, 4)...), ones(2, 9, 2, 4, 4, 4, 4, 9), ones(2, 10, 2, 3, 4, 3, 4, 10)},
		// So short that it is less long than wide, the shortest of all too.
		{open(0, 0, 1, 0), []int64{0, -one, 1, -one, 1, one, 0, one}, []int64{-one, -one, 1 + one, -one, 1 + one, one, -one, one}},
		{open(5, 5, 5, 4), []int64{5 - one, 5, 5 - one, 4, 5 + one, 4, 5 + one, 5}, []int64{5 - one, 5 + one, 5 - one, 4 - one, 5 + one, 4 - one, 5 + one, 5 + one}},
		// One whose length is rounded down to 1: u and v are One both.
		{open(0, 0, 1, 1), []int64{one, -one, 1 + one, 1 - one, 1 - one, 1 + one, -one, one}, []int64{0, -2 * one, 1 + 2*one, 1, 1, 1 + 2*one, -2 * one, 0}},
	} {
		for _, ends := range otherCaps() {
			checkOf(t, c.p, 2*one, ends, rings(c.plain))
			checkOf(t, c.p, 2*one+1, ends, rings(c.plain))
		}
		checkOf(t, c.p, 2*one, 1, rings(c.long))
		// Places one behind the other, ahead of it and behind it, count for nothing.
		a, b := c.p.P[0], c.p.P[1]
		for _, l := range [][]api.Point{{a, a, b}, {a, b, b}, {a, a, a, b, b, b, b}} {
			checkOf(t, api.Poly{P: l}, 2*one, 0, rings(c.plain))
			checkOf(t, api.Poly{P: l}, 2*one, 1, rings(c.long))
		}
	}
}

// Slanted sides: where the minus stands tells which way a number below 0 is rounded.
func TestOfSlanted(t *testing.T) {
	// u 39321 (0.6), v 52428 (0.8). Of h 3 u is 1.79.., v 2.39..: across (-3, 1), along (1, 2).
	p := open(0, 0, 3*one, 4*one)
	x, y := 3*one, 4*one
	checkOf(t, p, 6, 0, rings([]int64{3, -1, x + 3, y - 1, x - 3, y + 1, -3, 1}))
	checkOf(t, p, 6, 1, rings([]int64{-1 + 3, -2 - 1, x + 1 + 3, y + 2 - 1, x + 1 - 3, y + 2 + 1, -1 - 3, -2 + 1}))
	// Backwards u is -39322 (rounded down), v -52429: across (2, -2), along (-2, -3).
	p = open(x, y, 0, 0)
	checkOf(t, p, 6, 0, rings([]int64{x - 2, y + 2, -2, 2, 2, -2, x + 2, y - 2}))
	checkOf(t, p, 6, 1, rings([]int64{x + 2 - 2, y + 3 + 2, -2 - 2, -3 + 2, -2 + 2, -3 - 2, x + 2 + 2, y + 3 - 2}))
	// Of h 1: across (-1, 0), along (0, 0); and backwards (0, -1), (-1, -1).
	checkOf(t, open(0, 0, x, y), 2, 1, rings([]int64{1, 0, x + 1, y, x - 1, y, -1, 0}))
	checkOf(t, open(x, y, 0, 0), 2, 1, rings([]int64{x + 1, y + 1 + 1, -1, -1 + 1, -1, -1 - 1, x + 1, y + 1 - 1}))
	// To the right and up both of across are rounded down to 0: the poly is given all the same.
	checkOf(t, open(0, 0, x, -y), 2, 0, rings([]int64{0, 0, x, -y, x, -y, 0, 0}))
	// Of h 5 One: u 3 One - 3, v 4 One - 4, to the last bit.
	checkOf(t, open(0, 0, x, y), 10*one, 0, rings([]int64{262140, -196605, x + 262140, y - 196605, x - 262140, y + 196605, -262140, 196605}))
	checkOf(t, open(0, 0, x, y), 10*one, 1, rings([]int64{262140 - 196605, -196605 - 262140, x + 262140 + 196605, y - 196605 + 262140, x - 262140 + 196605, y + 196605 + 262140, -262140 - 196605, 196605 - 262140}))
}

// Two sides and more: the bars first, in their order, then two polys for each corner, in theirs.
func TestOfSeveral(t *testing.T) {
	bar1, bar2 := ones(0, -1, 10, -1, 10, 1, 0, 1), ones(11, 0, 11, 10, 9, 10, 9, 0)
	in, out := ones(10, 0, 10, 1, 9, 0), ones(10, 0, 10, -1, 11, 0)
	first, last := ones(-1, -1, 10, -1, 10, 1, -1, 1), ones(11, 0, 11, 11, 9, 11, 9, 0)
	for _, p := range []api.Poly{
		open(ones(0, 0, 10, 0, 10, 10)...), open(ones(0, 0, 0, 0, 10, 0, 10, 10)...), open(ones(0, 0, 10, 0, 10, 0, 10, 0, 10, 10)...), open(ones(0, 0, 10, 0, 10, 10, 10, 10)...), open(ones(0, 0, 0, 0, 10, 0, 10, 0, 10, 10, 10, 10, 10, 10)...),
	} {
		for _, ends := range otherCaps() {
			checkOf(t, p, 2*one, ends, rings(bar1, bar2, in, out))
		}
		checkOf(t, p, 2*one, 1, rings(first, last, in, out))
	}
	// Straight on: at the corner nothing is left between the two bars.
	checkOf(t, open(ones(0, 0, 4, 0, 10, 0)...), 2*one, 1, oneRings([]int64{-1, -1, 4, -1, 4, 1, -1, 1}, []int64{4, -1, 11, -1, 11, 1, 4, 1}, []int64{4, 0, 4, 1, 4, 1}, []int64{4, 0, 4, -1, 4, -1}))
	// Straight back on itself.
	checkOf(t, open(ones(0, 0, 10, 0, 4, 0)...), 2*one, 1, oneRings([]int64{-1, -1, 10, -1, 10, 1, -1, 1}, []int64{10, 1, 3, 1, 3, -1, 10, -1}, []int64{10, 0, 10, 1, 10, -1}, []int64{10, 0, 10, -1, 10, 1}))
	// To the other side: the corner's polys are turned.
	checkOf(t, open(ones(0, 0, 10, 0, 10, -10)...), 2*one, 0, oneRings([]int64{0, -1, 10, -1, 10, 1, 0, 1}, []int64{9, 0, 9, -10, 11, -10, 11, 0}, []int64{11, 0, 10, 1, 10, 0}, []int64{9, 0, 10, -1, 10, 0}))
	// Three: the one in the middle is not moved at either end, corners come in their order.
	checkOf(t, open(ones(0, 0, 10, 0, 10, 10, 20, 10)...), 2*one, 1, oneRings(
		[]int64{-1, -1, 10, -1, 10, 1, -1, 1}, []int64{11, 0, 11, 10, 9, 10, 9, 0}, []int64{10, 9, 21, 9, 21, 11, 10, 11},
		[]int64{10, 0, 10, 1, 9, 0}, []int64{10, 0, 10, -1, 11, 0}, []int64{10, 11, 9, 10, 10, 10}, []int64{10, 9, 11, 10, 10, 10}))
	// One that is open, though it ends where it began, has no corner there, and moved ends.
	checkOf(t, open(ones(0, 0, 10, 0, 0, 0)...), 2*one, 1, oneRings([]int64{-1, -1, 10, -1, 10, 1, -1, 1}, []int64{10, 1, -1, 1, -1, -1, 10, -1}, []int64{10, 0, 10, 1, 10, -1}, []int64{10, 0, 10, -1, 10, 1}))
}

// A closed one has no ends that a cap could move; its last corner is that of its last side and its first.
func TestOfClosed(t *testing.T) {
	square := oneRings(
		[]int64{0, -1, 10, -1, 10, 1, 0, 1}, []int64{11, 0, 11, 10, 9, 10, 9, 0}, []int64{10, 11, 0, 11, 0, 9, 10, 9}, []int64{-1, 10, -1, 0, 1, 0, 1, 10},
		[]int64{10, 0, 10, 1, 9, 0}, []int64{10, 0, 10, -1, 11, 0}, []int64{10, 10, 9, 10, 10, 9}, []int64{10, 10, 11, 10, 10, 11},
		[]int64{0, 10, 0, 9, 1, 10}, []int64{0, 10, 0, 11, -1, 10}, []int64{0, 0, 1, 0, 0, 1}, []int64{0, 0, -1, 0, 0, -1})
	two := oneRings([]int64{0, -1, 10, -1, 10, 1, 0, 1}, []int64{10, 1, 0, 1, 0, -1, 10, -1},
		[]int64{10, 0, 10, 1, 10, -1}, []int64{10, 0, 10, -1, 10, 1}, []int64{0, 0, 0, -1, 0, 1}, []int64{0, 0, 0, 1, 0, -1})
	for _, ends := range append(otherCaps(), 1) {
		for _, p := range []api.Poly{
			closed(ones(0, 0, 10, 0, 10, 10, 0, 10)...), closed(ones(0, 0, 0, 0, 10, 0, 10, 10, 0, 10)...), closed(ones(0, 0, 10, 0, 10, 10, 10, 10, 0, 10)...),
			// It ends where it began: the side between the two has no length.
			closed(ones(0, 0, 10, 0, 10, 10, 0, 10, 0, 0)...), closed(ones(0, 0, 0, 0, 10, 0, 10, 0, 10, 10, 0, 10, 0, 10, 0, 0, 0, 0)...),
		} {
			checkOf(t, p, 2*one, ends, square)
		}
		for _, p := range []api.Poly{closed(ones(0, 0, 10, 0)...), closed(ones(0, 0, 10, 0, 0, 0)...), closed(ones(0, 0, 0, 0, 10, 0, 10, 0)...)} {
			checkOf(t, p, 2*one, ends, two)
		}
	}
	// Backwards each corner bends the other way, and its polys are turned.
	back := oneRings(
		[]int64{1, 0, 1, 4, -1, 4, -1, 0}, []int64{0, 3, 4, 3, 4, 5, 0, 5}, []int64{3, 4, 3, 0, 5, 0, 5, 4}, []int64{4, 1, 0, 1, 0, -1, 4, -1},
		[]int64{0, 5, -1, 4, 0, 4}, []int64{0, 3, 1, 4, 0, 4}, []int64{5, 4, 4, 5, 4, 4}, []int64{3, 4, 4, 3, 4, 4},
		[]int64{4, -1, 5, 0, 4, 0}, []int64{4, 1, 3, 0, 4, 0}, []int64{-1, 0, 0, -1, 0, 0}, []int64{1, 0, 0, 1, 0, 0})
	checkOf(t, closed(ones(0, 0, 0, 4, 4, 4, 4, 0)...), 2*one, 1, back)
}

// Each place of each poly is held, and only at the end: what was moved past a bound comes back by as much.
func TestOfHolds(t *testing.T) {
	for _, ends := range []int{0, 1} {
		checkOf(t, open(-far, far, far, far), most, ends, rings([]int64{-far, far - near, far, far - near, far, far, -far, far}))
		// Past bounds a side is as long, and lies, as if it ended on them.
		checkOf(t, open(least, most, far+1, great), most, ends, rings([]int64{-far, far - near, far, far - near, far, far, -far, far}))
	}
	checkOf(t, open(-far, 0, far, 0), 4, 1, rings([]int64{-far, -2, far, -2, far, 2, -far, 2}))
	checkOf(t, open(1-far, 0, far-1, 0), 4, 1, rings([]int64{-far, -2, far, -2, far, 2, -far, 2}))
	checkOf(t, open(2-far, 0, far-3, 0), 4, 1, rings([]int64{-far, -2, far - 1, -2, far - 1, 2, -far, 2}))
	checkOf(t, open(0, 1-far, 0, far+5), 8, 1, rings([]int64{4, -far, 4, far, -4, far, -4, -far}))
	// Along (40264704, 53686272), across (-53686272, 40264704).
	checkOf(t, open(-far, 0, 3*one-far, 4*one), 2*near, 1, rings([]int64{13421568 - far, -93950976, 94147584 - far, 13683712, -far, 94213120, -far, -13421568}))
	checkOf(t, open(-far, 0, 3*one-far, 4*one), 2*near, 0, rings([]int64{53686272 - far, -40264704, 53882880 - far, -40002560, -far, 40526848, -far, 40264704}))
	// All of one poly of a corner falls together on the corner of all places.
	checkOf(t, open(0, far, far, far, far, 0), 2*near, 0, rings(
		[]int64{0, far - near, far, far - near, far, far, 0, far}, []int64{far - near, far, far - near, 0, far, 0, far, far},
		[]int64{far, far, far, far, far, far}, []int64{far - near, far, far, far - near, far, far}))
	// The greatest side there is.
	checkOf(t, open(least, least, most, most), 2, 0, rings([]int64{1 - far, -far, far, far, far - 1, far, -far, -far}))
}

// somePoly is of few points: near each other, at edges, of any size, or some Ones apart; now and then one twice.
func somePoly(r *rand.Rand, list []int64) api.Poly {
	p := api.Poly{Closed: r.Intn(2) == 0}
	kind := r.Intn(4)
	for range r.Intn(9) {
		switch n := len(p.P); {
		case n > 0 && r.Intn(4) == 0:
			p.P = append(p.P, p.P[n-1])
		case n > 0 && r.Intn(8) == 0:
			p.P = append(p.P, p.P[0])
		case kind == 0:
			p.P = append(p.P, at(r.Int63n(12)-6, r.Int63n(12)-6))
		case kind == 1:
			p.P = append(p.P, at(list[r.Intn(len(list))], list[r.Intn(len(list))]))
		case kind == 2:
			p.P = append(p.P, at(int64(r.Uint64())>>r.Intn(63), int64(r.Uint64())>>r.Intn(63)))
		default:
			p.P = append(p.P, at(r.Int63n(40*one)-20*one, r.Int63n(40*one)-20*one))
		}
	}
	return p
}

func someWidth(r *rand.Rand, list []int64) int64 {
	switch r.Intn(4) {
	case 0:
		return list[r.Intn(len(list))]
	case 1:
		return r.Int63n(40)
	case 2:
		return r.Int63n(2*near + 9)
	}
	return int64(r.Uint64()) >> r.Intn(63)
}

func TestOf(t *testing.T) {
	r, list := rand.New(rand.NewSource(123)), edges()
	for range 30000 {
		p, width, ends := somePoly(r, list), someWidth(r, list), r.Intn(4)-1
		checkOf(t, p, width, ends, wantOf(p, width, ends))
	}
}

// Each way that a short side may go, with each small width: all the roundings of what is little.
func TestOfEachWay(t *testing.T) {
	for dx := int64(-6); dx <= 6; dx++ {
		for dy := int64(-6); dy <= 6; dy++ {
			for _, width := range []int64{2, 3, 4, 7, 16, 999, 2*one + 2, 2 * near} {
				for _, ends := range []int{0, 1} {
					p := open(5, -7, 5+dx, dy-7, 9, 9)
					checkOf(t, p, width, ends, wantOf(p, width, ends))
					p.Closed = true
					checkOf(t, p, width, ends, wantOf(p, width, ends))
				}
			}
		}
	}
}

// Each side from and to numbers at and past bounds, with widths at and past theirs.
func TestOfRoundEdges(t *testing.T) {
	list := edges()
	for i, a := range list {
		b := list[(i*7+3)%len(list)]
		for _, p := range []api.Poly{open(a, b, b, a), open(0, 0, a, 5), closed(a, 1, 1, b, 7, 7), open(b, b, a, a, b, a), open(one, -one, one, a)} {
			for _, width := range list {
				for _, ends := range []int{0, 1} {
					checkOf(t, p, width, ends, wantOf(p, width, ends))
				}
			}
		}
	}
}

// Of n sides there are n bars, and two polys for each corner: one less than n, or, of a closed one, n.
func TestOfCount(t *testing.T) {
	for n := int64(1); n <= 40; n++ {
		p := open(0, 0)
		for i := range n {
			p.P = append(p.P, at((i+1)*one, i*i*9))
		}
		got := Of(p, 2*one, 1)
		if len(got) != int(n+2*(n-1)) {
			t.Errorf("P12.2: Of %d sides: %d polys", n, len(got))
		}
		p.Closed = true
		n := n + 1
		got = Of(p, 2*one, 1)
		if len(got) != int(n+2*n) {
			t.Errorf("P12.2: Of %d sides, closed: %d polys", n, len(got))
		}
		for i, x := range got {
			if want := 4 - min(i/int(n), 1); len(x.P) != want || !x.Closed {
				t.Errorf("P12.2: Of %d sides, closed: poly %d: %v", n, i, x)
			}
		}
	}
}

func TestOfMany(t *testing.T) {
	r := rand.New(rand.NewSource(124))
	for _, n := range []int{1000, 1 << 16} {
		p := api.Poly{Closed: n == 1000}
		for range n {
			p.P = append(p.P, at(r.Int63n(2*far)-far, r.Int63n(2*far)-far))
		}
		checkOf(t, p, 3*one, 1, wantOf(p, 3*one, 1))
	}
	// A million places, and no side with a length, or one.
	p := api.Poly{Closed: true, P: make([]api.Point, 1<<20)}
	checkOf(t, p, 2*one, 1, nil)
	p.Closed = false
	p.P[len(p.P)-1].X = 10 * one
	checkOf(t, p, 2*one, 1, oneRings([]int64{-1, -1, 11, -1, 11, 1, -1, 1}))
}

// R4: nil and empty lists mean the same.
func TestOfNilLists(t *testing.T) {
	for _, ends := range []bool{false, true} {
		for _, width := range []int64{-1, 0, 1, 2 * one, most} {
			a, b := Of(api.Poly{Closed: ends}, width, 1), Of(api.Poly{Closed: ends, P: []api.Point{}}, width, 1)
			if len(a) != 0 || len(b) != 0 {
				t.Errorf("R4: Of nil %v, of an empty list %v", a, b)
			}
		}
	}
	if Area(nil) != Area([]api.Point{}) || len(Turned(nil)) != 0 || len(Turned([]api.Point{})) != 0 {
		t.Error("R4: nil and empty lists differ")
	}
}

// R5: points behind a list's length are none of the poly's.
func TestOfRoomBehind(t *testing.T) {
	l := points(0, 0, 4*one, 0, 4*one, 4*one, most, least)
	for n := range 4 {
		for _, ends := range []bool{false, true} {
			alone := api.Poly{Closed: ends, P: slices.Clip(slices.Clone(l[:n]))}
			want := wantOf(alone, 2*one, 1)
			if got := Of(api.Poly{Closed: ends, P: l[:n]}, 2*one, 1); !alike(got, want) {
				t.Errorf("R5: Of %d points of more, closed %v: %v, want %v", n, ends, got, want)
			}
		}
	}
	if !slices.Equal(l, points(0, 0, 4*one, 0, 4*one, 4*one, most, least)) {
		t.Errorf("R2: Of changed the room behind a list: %v", l)
	}
}

// No two lists of one answer share memory: neither writing into one nor adding to it reaches another.
func TestOwnLists(t *testing.T) {
	for _, p := range []api.Poly{open(ones(0, 0, 4, 0)...), open(ones(0, 0, 4, 0, 4, 4)...), closed(ones(0, 0, 4, 0, 4, 4, 0, 4)...), closed(ones(0, 0, 4, 0)...)} {
		was, want := slices.Clone(p.P), wantOf(p, 2*one, 1)
		for i := range want {
			got := Of(p, 2*one, 1)
			fill(got[i].P, at(-123456789, 987654321))
			got[i].P = append(got[i].P, at(8, 8))
			for j := range want {
				if j != i && !like(got[j], want[j]) {
					t.Errorf("R2: Of %v: writing into list %d changed list %d to %v", p, i, j, got[j])
				}
			}
		}
		if !slices.Equal(p.P, was) {
			t.Errorf("R2: the poly that was handed in became %v", p)
		}
	}
}

// R2, R4: what was answered stands, whatever is written into what was handed in, and is answered again.
func TestOfStands(t *testing.T) {
	for _, width := range []int64{0, 2, 2 * one, most} {
		p := closed(ones(0, 0, 4, 0, 4, 4, 0, 4)...)
		want := wantOf(p, width, 1)
		got, again := Of(p, width, 1), Of(p, width, 1)
		fill(p.P, at(-123456789, 987654321))
		if !alike(got, want) || !alike(again, want) {
			t.Errorf("R2: Of, width %d, was kept: %v, %v, want %v", width, got, again, want)
		}
		if shared(got); !alike(again, want) {
			t.Errorf("R2: two answers of Of, width %d, share memory: %v", width, again)
		}
	}
}
