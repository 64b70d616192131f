package trim

import (
	"math"
	"math/big"
	"math/rand"
	"slices"
	"testing"

	"mutoscope/api"
	"mutoscope/arc"
)

const (
	one   = int64(api.One)
	near  = int64(api.Near)
	far   = int64(api.Far)
	great = int64(api.Great)
	least = int64(math.MinInt64)
	most  = int64(math.MaxInt64)
)

func at(x, y int64) api.Point { return api.Point{X: x, Y: y} }

// points are the numbers in pairs.
func points(numbers ...int64) []api.Point {
	var out []api.Point
	for i := 0; i+1 < len(numbers); i += 2 {
		out = append(out, at(numbers[i], numbers[i+1]))
	}
	return out
}

func open(numbers ...int64) api.Poly { return api.Poly{P: points(numbers...)} }

func closed(numbers ...int64) api.Poly { return api.Poly{Closed: true, P: points(numbers...)} }

// The reckoning below is the chapter's; how long a poly is, and a part of it, arc's own tests ask.

func wantShare(a int64) int64 {
	switch {
	case a <= 0:
		return 0
	case a >= one:
		return one
	}
	return a
}

func wantSpan(from, to int64) (int64, int64) {
	l := []int64{wantShare(from), wantShare(to)}
	slices.Sort(l)
	return l[0], l[1]
}

// wantShareOf is in numbers without a size; big's Div rounds down where what it divides by is above 0.
func wantShareOf(length, share int64) int64 {
	n := new(big.Int).Mul(big.NewInt(length), big.NewInt(share))
	return n.Div(n, big.NewInt(one)).Int64()
}

func wantOf(l []api.Poly, from, to int64) []api.Poly {
	a, b := wantSpan(from, to)
	if b-a == one {
		return cloned(l)
	}
	var out []api.Poly
	for _, p := range l {
		length := arc.Length(p)
		got := arc.Part(p, wantShareOf(length, a), wantShareOf(length, b))
		if len(got.P) > 1 {
			out = append(out, api.Poly{P: got.P})
		}
	}
	return out
}

func cloned(l []api.Poly) []api.Poly {
	var out []api.Poly
	for _, p := range l {
		out = append(out, api.Poly{Closed: p.Closed, P: slices.Clone(p.P)})
	}
	return out
}

func like(a, b api.Poly) bool { return a.Closed == b.Closed && slices.Equal(a.P, b.P) }

func alike(a, b []api.Poly) bool { return slices.EqualFunc(a, b, like) }

// guard hands l out with room behind it and behind each list in it; changed says whether any of it, the room too, is not as it was.
func guard(l []api.Poly) (given []api.Poly, changed func() bool) {
	var wholes [][]api.Point
	filler := api.Poly{Closed: true, P: points(0, 0, 640, 0, 640, 640)}
	all := append(cloned(l), filler, api.Poly{P: points(1, 2)}, filler)
	for i, p := range all {
		whole := append(slices.Clone(p.P), at(least, 77), at(640, most), at(0, 0), at(5, 5))
		wholes = append(wholes, whole)
		all[i].P = whole[:len(p.P)]
	}
	was, points := cloned(all), slices.Clone(wholes)
	for i := range points {
		points[i] = slices.Clone(points[i])
	}
	return all[:len(l)], func() bool {
		return !alike(all, was) || !slices.EqualFunc(wholes, points, slices.Equal[[]api.Point])
	}
}

// spoil writes into a list of an answer, its spare room too.
func spoil(l []api.Point) {
	whole := l[:cap(l)]
	for i := range whole {
		whole[i] = at(-123456789, 987654321)
	}
}

// spoilPolys writes into all of an answer, its spare room too.
func spoilPolys(l []api.Poly) {
	for _, p := range l {
		spoil(p.P)
	}
	whole := l[:cap(l)]
	for i := range whole {
		whole[i] = open(9, 9)
	}
}

// edges: numbers round which a call may change its mind, both signs, and those beside them; and the ends of int64.
func edges() []int64 {
	out := []int64{0, least, least + 1, most, most - 1}
	for _, n := range []int64{1, 5, one / 4, one / 2, one, 2 * one, near, far, 1 << 32, great, 1 << 53, 1 << 62} {
		for _, e := range []int64{n - 1, n, n + 1} {
			out = append(out, e, -e)
		}
	}
	return out
}

// picker: rows of numbers of any size, edges, shares and small ones among them.
func picker(seed int64) func() int64 {
	r, list := rand.New(rand.NewSource(seed)), edges()
	return func() int64 {
		switch r.Intn(4) {
		case 0:
			return list[r.Intn(len(list))]
		case 1:
			return r.Int63n(one + 1)
		case 2:
			return r.Int63n(20) - 10
		}
		return int64(r.Uint64()) >> r.Intn(63)
	}
}

func TestSpanByHand(t *testing.T) {
	for _, c := range []struct{ from, to, a, b int64 }{
		// Below 0, at it, next to it.
		{-1, -1, 0, 0}, {-5, -9, 0, 0}, {least, -1, 0, 0}, {least, least, 0, 0}, {least, 0, 0, 0}, {-1, 0, 0, 0}, {0, 0, 0, 0},
		{-1, 1, 0, 1}, {least, 1, 0, 1}, {0, 1, 0, 1}, {1, 1, 1, 1}, {1, 2, 1, 2},
		// Between 0 and One.
		{3, 5, 3, 5}, {7, 7, 7, 7}, {1, one / 2, 1, one / 2}, {one / 4, one / 2, one / 4, one / 2}, {0, one / 2, 0, one / 2}, {-9, 30000, 0, 30000}, {least, 30000, 0, 30000},
		{30000, one, 30000, one}, {30000, 2 * one, 30000, one}, {30000, most, 30000, one}, {30000, one - 1, 30000, one - 1}, {30000, one + 1, 30000, one},
		// Next to One, at it, past it.
		{one - 2, one - 1, one - 2, one - 1}, {one - 1, one - 1, one - 1, one - 1}, {one - 1, one, one - 1, one}, {one - 1, one + 1, one - 1, one}, {one - 1, most, one - 1, one},
		{one, one, one, one}, {one, one + 1, one, one}, {one + 1, one + 1, one, one}, {one + 1, one + 9, one, one}, {8 * one, 9 * one, one, one}, {one, most, one, one}, {most, most, one, one}, {most - 1, most, one, one},
		// From end to end.
		{0, one, 0, one}, {-1, one, 0, one}, {0, one + 1, 0, one}, {-1, one + 1, 0, one}, {-9 * one, 9 * one, 0, one}, {least, most, 0, one}, {least, one, 0, one}, {0, most, 0, one}, {-great, great, 0, one},
		// Next to that.
		{0, one - 1, 0, one - 1}, {1, one, 1, one}, {1, one - 1, 1, one - 1}, {least, one - 1, 0, one - 1}, {1, most, 1, one},
	} {
		if a, b := Span(c.from, c.to); a != c.a || b != c.b {
			t.Errorf("P10.1: Span(%d, %d): %d, %d, want %d, %d", c.from, c.to, a, b, c.a, c.b)
		}
		if a, b := Span(c.to, c.from); a != c.a || b != c.b {
			t.Errorf("P10.1: Span(%d, %d): %d, %d, want %d, %d", c.to, c.from, a, b, c.a, c.b)
		}
	}
}

func TestSpan(t *testing.T) {
	check := func(from, to int64) {
		t.Helper()
		a, b := Span(from, to)
		if x, y := wantSpan(from, to); a != x || b != y {
			t.Fatalf("P10.1: Span(%d, %d): %d, %d, want %d, %d", from, to, a, b, x, y)
		}
	}
	for _, from := range edges() {
		for _, to := range edges() {
			check(from, to)
		}
	}
	pick := picker(101)
	for range 100000 {
		check(pick(), pick())
	}
}
