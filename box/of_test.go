package box

import (
	"math/big"
	"math/rand"
	"slices"
	"testing"

	"mutoscope/api"
)

func open(numbers ...int64) api.Poly { return api.Poly{P: points(numbers...)} }

func ring(numbers ...int64) api.Poly { return api.Poly{Closed: true, P: points(numbers...)} }

// points are the numbers in pairs.
func points(numbers ...int64) []api.Point {
	var out []api.Point
	for i := 0; i+1 < len(numbers); i += 2 {
		out = append(out, api.Point{X: numbers[i], Y: numbers[i+1]})
	}
	return out
}

// The reckoning below is the chapter's, in numbers without a size.

// wantDown: big's Div rounds down where what it divides by is above 0.
func wantDown(a *big.Int) int {
	return int(new(big.Int).Div(a, big.NewInt(api.One)).Int64())
}

func wantUp(a *big.Int) int { return -wantDown(new(big.Int).Neg(a)) }

func wantOf(l []api.Poly) api.Box {
	var xs, ys []int64
	for _, p := range l {
		for _, x := range p.P {
			xs, ys = append(xs, x.X), append(ys, x.Y)
		}
	}
	if len(xs) == 0 {
		return api.Box{}
	}
	slices.Sort(xs)
	slices.Sort(ys)
	last := len(xs) - 1
	return api.Box{
		X0: wantDown(big.NewInt(xs[0])), Y0: wantDown(big.NewInt(ys[0])),
		X1: wantUp(big.NewInt(xs[last])), Y1: wantUp(big.NewInt(ys[last])),
	}
}

// room are the polys, and the points, that stand behind a list's length: if they were read, Of would answer the widest box.
const room = 3

func guardPoints(l []api.Point) []api.Point {
	out := slices.Clone(l)
	for range room {
		out = append(out, api.Point{X: least, Y: least}, api.Point{X: most, Y: most})
	}
	return out[:len(l)]
}

func guard(l []api.Poly) []api.Poly {
	var out []api.Poly
	for _, p := range l {
		out = append(out, api.Poly{Closed: p.Closed, P: guardPoints(p.P)})
	}
	for range room {
		out = append(out, open(least, least, most, most))
	}
	return out[:len(l)]
}

// copied is all of l, the room behind each list too, in memory of its own.
func copied(l []api.Poly) []api.Poly {
	out := slices.Clone(l[:cap(l)])
	for i, p := range out {
		out[i].P = slices.Clone(p.P[:cap(p.P)])
	}
	return out
}

func alike(a, b []api.Poly) bool {
	return slices.EqualFunc(a, b, func(a, b api.Poly) bool { return a.Closed == b.Closed && slices.Equal(a.P, b.P) })
}

// checkOf looks whether what is handed in, and the room behind it, stays as it was too.
func checkOf(t *testing.T, l []api.Poly, want api.Box) {
	t.Helper()
	given := guard(l)
	was := copied(given)
	if got := Of(given); got != want {
		t.Fatalf("P14.1: Of(%v): %v, want %v", l, got, want)
	}
	if !alike(copied(given), was) {
		t.Fatalf("R2: Of(%v) changed what was handed in to %v", l, copied(given))
	}
	if got := Of(l); got != want {
		t.Fatalf("R5: Of(%v) without room behind it: %v, want %v", l, got, want)
	}
}

func TestOfNone(t *testing.T) {
	for _, l := range [][]api.Poly{
		nil,
		{},
		{{}},
		{{Closed: true}},
		{{P: []api.Point{}}},
		{{Closed: true, P: []api.Point{}}},
		{{}, {Closed: true}, {P: []api.Point{}}, {Closed: true, P: []api.Point{}}},
	} {
		checkOf(t, l, api.Box{})
	}
}

func TestOfOneNumber(t *testing.T) {
	for i, c := range []struct {
		a        int64
		down, up int
	}{
		// Whole pixels, one past and one short of them: at 0, above it and below it.
		{0, 0, 0}, {1, 0, 1}, {-1, -1, 0}, {2, 0, 1}, {-2, -1, 0},
		{one, 1, 1}, {one - 1, 0, 1}, {one + 1, 1, 2},
		{-one, -1, -1}, {-one - 1, -2, -1}, {-one + 1, -1, 0},
		{5 * one, 5, 5}, {5*one - 1, 4, 5}, {5*one + 1, 5, 6},
		{-5 * one, -5, -5}, {-5*one - 1, -6, -5}, {-5*one + 1, -5, -4},
		// Halves.
		{one / 2, 0, 1}, {-one / 2, -1, 0}, {7*one + one/2, 7, 8}, {-7*one - one/2, -8, -7},
		// Past what goes into 32 bits, past every bound, and at the ends of int64.
		{1 << 32, 1 << 16, 1 << 16}, {1<<32 + 1, 1 << 16, 1<<16 + 1}, {-1<<32 - 1, -1<<16 - 1, -1 << 16},
		{near + 1, 1 << 10, 1<<10 + 1}, {far + 1, 1 << 13, 1<<13 + 1}, {great + 1, 1 << 24, 1<<24 + 1}, {-great - 1, -1<<24 - 1, -1 << 24},
		{1<<53 + 1, 1 << 37, 1<<37 + 1}, {-1<<53 - 1, -1<<37 - 1, -1 << 37},
		{most, 1<<47 - 1, 1 << 47}, {most - one, 1<<47 - 2, 1<<47 - 1}, {most - one + 1, 1<<47 - 1, 1<<47 - 1}, {most - one + 2, 1<<47 - 1, 1 << 47},
		{least, -1 << 47, -1 << 47}, {least + 1, -1 << 47, -1<<47 + 1}, {least + one, -1<<47 + 1, -1<<47 + 1}, {least + one - 1, -1 << 47, -1<<47 + 1},
	} {
		if a := big.NewInt(c.a); wantDown(a) != c.down || wantUp(a) != c.up {
			t.Fatalf("case %d: the test's own reckoning of %d: %d, %d", i, c.a, wantDown(a), wantUp(a))
		}
		// The other one of the two lies at whole pixels, once above 0 and once below.
		checkOf(t, []api.Poly{open(c.a, 3*one)}, b(c.down, 3, c.up, 3))
		checkOf(t, []api.Poly{ring(-3*one, c.a)}, b(-3, c.down, -3, c.up))
		checkOf(t, []api.Poly{ring(c.a, c.a)}, b(c.down, c.down, c.up, c.up))
	}
}

func TestOfByHand(t *testing.T) {
	for _, c := range []struct {
		l    []api.Poly
		want api.Box
	}{
		// The ends may stand at any place of a list, X's at others than Y's.
		{[]api.Poly{open(0, 0, 4*one, 2*one)}, b(0, 0, 4, 2)},
		{[]api.Poly{open(4*one, 2*one, 0, 0)}, b(0, 0, 4, 2)},
		{[]api.Poly{open(0, 2*one, 4*one, 0)}, b(0, 0, 4, 2)},
		{[]api.Poly{open(4*one, 0, 0, 2*one)}, b(0, 0, 4, 2)},
		{[]api.Poly{ring(one, 2*one, 5*one, 9*one, 3*one, one, 0, 4*one)}, b(0, 1, 5, 9)},
		// All above 0, all below: 0 itself does not count.
		{[]api.Poly{open(3*one, 4*one, 5*one, 7*one)}, b(3, 4, 5, 7)},
		{[]api.Poly{open(-3*one, -4*one, -5*one, -7*one)}, b(-5, -7, -3, -4)},
		{[]api.Poly{open(3*one, -4*one)}, b(3, -4, 3, -4)},
		// One past and one short on each side.
		{[]api.Poly{open(2*one-1, 3*one-1, 4*one+1, 5*one+1)}, b(1, 2, 5, 6)},
		{[]api.Poly{open(2*one+1, 3*one+1, 4*one-1, 5*one-1)}, b(2, 3, 4, 5)},
		{[]api.Poly{open(-4*one-1, -5*one-1, -2*one+1, -3*one+1)}, b(-5, -6, -1, -2)},
		{[]api.Poly{open(-4*one+1, -5*one+1, -2*one-1, -3*one-1)}, b(-4, -5, -2, -3)},
		// Within one pixel, and across 0.
		{[]api.Poly{open(1, 2, 3, 4)}, b(0, 0, 1, 1)},
		{[]api.Poly{open(-1, -2, -3, -4)}, b(-1, -1, 0, 0)},
		{[]api.Poly{open(-1, 1, 1, -1)}, b(-1, -1, 1, 1)},
		// A line has no width: its box may be Empty, and says where it lies all the same.
		{[]api.Poly{open(6*one, 0, 6*one, 9*one)}, b(6, 0, 6, 9)},
		{[]api.Poly{open(0, -6*one, 9*one, -6*one)}, b(0, -6, 9, -6)},
		{[]api.Poly{ring(6*one, 8*one, 6*one, 8*one)}, b(6, 8, 6, 8)},
		// Several polys, of which some are empty: ahead, between and behind.
		{[]api.Poly{{}, open(one, one), {Closed: true}, ring(5*one, 3*one), {}}, b(1, 1, 5, 3)},
		{[]api.Poly{open(9*one, -one), open(2*one, 8*one), ring(-3*one-1, 4*one)}, b(-4, -1, 9, 8)},
		{[]api.Poly{ring(-3*one-1, 4*one), {}, open(2*one, 8*one), open(9*one, -one)}, b(-4, -1, 9, 8)},
		// The ends of int64, together and each alone.
		{[]api.Poly{open(least, least, most, most)}, b(-1<<47, -1<<47, 1<<47, 1<<47)},
		{[]api.Poly{open(most, least), open(least, most)}, b(-1<<47, -1<<47, 1<<47, 1<<47)},
		{[]api.Poly{open(0, 0, most, least)}, b(0, -1<<47, 1<<47, 0)},
		{[]api.Poly{open(0, 0, least, most)}, b(-1<<47, 0, 0, 1<<47)},
	} {
		checkOf(t, c.l, c.want)
	}
}

func TestOf(t *testing.T) {
	r := rand.New(rand.NewSource(141))
	pick := func() int64 {
		switch r.Intn(4) {
		case 0:
			return (r.Int63n(9)-4)*one + r.Int63n(3) - 1
		case 1:
			return []int64{least, least + 1, -great, -far, -1, 0, 1, far, great, most - 1, most}[r.Intn(11)]
		case 2:
			return r.Int63n(2*near+1) - near
		}
		return int64(r.Uint64()) >> r.Intn(63)
	}
	for range 30000 {
		l := make([]api.Poly, r.Intn(5))
		for i := range l {
			l[i].Closed = r.Intn(2) == 0
			for range r.Intn(4) {
				l[i].P = append(l[i].P, api.Point{X: pick(), Y: pick()})
			}
		}
		checkOf(t, l, wantOf(l))
	}
}

// A long list, the ends of which stand at its end alone.
func TestOfMany(t *testing.T) {
	l := make([]api.Poly, 2000)
	for i := range l {
		l[i] = open(int64(i)*one, int64(-i)*one, 0, 0, one, one)
	}
	checkOf(t, l, b(0, -1999, 1999, 1))
	p := make([]api.Point, 1<<18)
	p[len(p)-1] = api.Point{X: 7*one + 1, Y: -9*one - 1}
	checkOf(t, []api.Poly{{}, {P: p}}, b(0, -10, 8, 0))
}
