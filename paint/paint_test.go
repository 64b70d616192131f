package paint

import (
	"math"
	"math/big"
	"math/rand"
	"testing"

	"mutoscope/api"
)

const (
	one    = int64(65536)
	bound  = int64(1 << 26) // of a document
	far    = int64(1 << 29)
	great  = int64(1 << 40)
	least  = int64(math.MinInt64)
	most   = int64(math.MaxInt64)
	low    = math.MinInt
	high   = math.MaxInt
	solid  = 0
	linear = 1
	radial = 2
)

// Each part tells itself from the others.
var (
	first  = api.Color{0, 200, 10, 255}
	second = api.Color{255, 100, 90, 0}
)

func at(x, y int64) api.Point { return api.Point{X: x, Y: y} }

func painted(kind int, p, to api.Point, r int64) api.Paint {
	return api.Paint{Kind: kind, A: first, B: second, P: p, Q: to, R: r}
}

// allKinds are the three kinds, and some that are none.
func allKinds() []int { return append([]int{solid, linear, radial}, noKinds()...) }

func noKinds() []int { return []int{-1, -2, -3, 3, 4, 255, 256, 257, 1 << 32, low, low + 1, high} }

// The reckoning below is the chapters', in numbers without a size, and shares nothing with the packages.

func wide(a int64) *big.Int { return big.NewInt(a) }

func clamped(a *big.Int, lo, hi int64) int64 {
	if a.Cmp(wide(lo)) < 0 {
		return lo
	}
	if a.Cmp(wide(hi)) > 0 {
		return hi
	}
	return a.Int64()
}

func within(a *big.Int, most int64) *big.Int { return wide(clamped(a, -most, most)) }

func plus(a, b *big.Int) *big.Int { return new(big.Int).Add(a, b) }

func minus(a, b *big.Int) *big.Int { return new(big.Int).Sub(a, b) }

func times(a, b *big.Int) *big.Int { return new(big.Int).Mul(a, b) }

// down is a by b, rounded down: big's Div rounds so where b is above 0 alone.
func down(a, b *big.Int) *big.Int {
	if b.Sign() < 0 {
		a, b = new(big.Int).Neg(a), new(big.Int).Neg(b)
	}
	return new(big.Int).Div(a, b)
}

func wantMul(a, b *big.Int) *big.Int {
	return within(down(times(within(a, great), within(b, great)), wide(one)), great)
}

func wantAdd(a, b *big.Int) *big.Int { return within(plus(within(a, great), within(b, great)), great) }

func wantDiv(a, b *big.Int) *big.Int {
	a, b = within(a, great), within(b, great)
	if b.Sign() == 0 {
		return b
	}
	return within(down(times(a, wide(one)), b), great)
}

func wantHyp(a, b *big.Int) *big.Int {
	a, b = within(a, 2*far), within(b, 2*far)
	n := plus(times(a, a), times(b, b))
	return within(n.Sqrt(n), great)
}

func wantApply(m api.Mat, p api.Point) api.Point {
	x := wantAdd(wantAdd(wantMul(wide(m.A), wide(p.X)), wantMul(wide(m.C), wide(p.Y))), wide(m.E))
	y := wantAdd(wantAdd(wantMul(wide(m.B), wide(p.X)), wantMul(wide(m.D), wide(p.Y))), wide(m.F))
	return at(clamped(x, -far, far), clamped(y, -far, far))
}

func wantMap(m api.Mat, p api.Paint) api.Paint {
	r := wantMul(wide(p.R), wantHyp(wide(m.A), wide(m.B)))
	return api.Paint{Kind: p.Kind, A: p.A, B: p.B, P: wantApply(m, p.P), Q: wantApply(m, p.Q), R: r.Int64()}
}

// wantMiddle holds the pixel, not its place.
func wantMiddle(x int) *big.Int {
	return plus(times(within(wide(int64(x)), 256), wide(one)), wide(one/2))
}

func wantWay(p api.Paint, x, y int) int64 {
	px, py := within(wide(p.P.X), far), within(wide(p.P.Y), far)
	dx, dy := minus(wantMiddle(x), px), minus(wantMiddle(y), py)
	way := wide(0)
	switch {
	case p.Kind == linear:
		ex, ey := minus(within(wide(p.Q.X), far), px), minus(within(wide(p.Q.Y), far), py)
		n := down(plus(times(dx, ex), times(dy, ey)), wide(one))
		m := down(plus(times(ex, ex), times(ey, ey)), wide(one))
		if m.Sign() != 0 {
			way = wantDiv(n, m)
		}
	case p.Kind == radial && p.R <= 0:
		way = wide(one)
	case p.Kind == radial:
		way = wantDiv(wantHyp(dx, dy), wide(p.R))
	}
	return clamped(way, 0, one)
}

func wantAt(p api.Paint, x, y int) api.Color {
	var out api.Color
	way := wide(wantWay(p, x, y))
	for i := range out {
		a, b := wide(int64(p.A[i])), wide(int64(p.B[i]))
		out[i] = uint8(clamped(plus(a, down(times(minus(b, a), way), wide(one))), 0, 255))
	}
	return out
}

// edges: numbers round which a call changes its mind, and what lies beside them; and the ends of int64.
func edges() []int64 {
	out := []int64{0, least, least + 1, most, most - 1}
	for _, n := range []int64{1, 181, 255, 256, one / 2, one, 7 * one, 256 * one, bound, far, 2 * far, 4 * far, great, 2 * great, 1 << 56, 1 << 62} {
		for _, e := range []int64{n - 1, n, n + 1} {
			out = append(out, e, -e)
		}
	}
	return out
}

// pixels: those round which a pixel is held, ordinary ones, and the ends of int.
func pixels() []int {
	out := []int{low, low + 1, high, high - 1, 1 << 47, -(1 << 47), 1 << 48, -(1 << 48)}
	for _, n := range []int{0, 1, 2, 9, 100, 255, 256, 257, 258, 1 << 13, 1 << 16, 1 << 32} {
		out = append(out, n, -n)
	}
	return out
}

// picker: rows of numbers of any size, edges among them.
func picker(r *rand.Rand) func() int64 {
	list := edges()
	return func() int64 {
		switch r.Intn(4) {
		case 0:
			return list[r.Intn(len(list))]
		case 1:
			return r.Int63n(32*one) - 16*one
		case 2:
			return r.Int63n(512*one) - 256*one
		}
		return int64(r.Uint64()) >> r.Intn(63)
	}
}

func pixelPicker(r *rand.Rand) func() int {
	list := pixels()
	return func() int {
		switch r.Intn(4) {
		case 0:
			return list[r.Intn(len(list))]
		case 1:
			return int(r.Uint64()) >> r.Intn(63)
		}
		return r.Intn(40) - 20
	}
}

func TestRightOfKinds(t *testing.T) {
	for _, c := range []api.Color{{}, first, second, {255, 255, 255, 255}, {0, 0, 0, 255}, {255, 0, 0, 0}} {
		for _, kind := range []int{api.Solid, api.Linear, api.Radial} {
			for _, p := range []api.Paint{{Kind: kind, A: c}, {Kind: kind, B: c}, {Kind: kind, A: c, B: c, P: at(1, 2), Q: at(-3, 4), R: 5}} {
				if !Right(p) {
					t.Errorf("P16.1: Right(%v): false", p)
				}
			}
		}
		for _, kind := range noKinds() {
			for _, p := range []api.Paint{{Kind: kind, A: c}, {Kind: kind, B: c}, {Kind: kind, A: c, B: c, P: at(1, 2), Q: at(-3, 4), R: 5}} {
				if Right(p) {
					t.Errorf("P16.1: Right(%v): true", p)
				}
			}
		}
	}
}

// fields are a paint's numbers, one by one.
func fields(p *api.Paint) []*int64 { return []*int64{&p.P.X, &p.P.Y, &p.Q.X, &p.Q.Y, &p.R} }

func TestRightOfEachNumber(t *testing.T) {
	values := append(edges(), bound-1, bound, bound+1, -bound+1, -bound, -bound-1)
	for _, kind := range allKinds() {
		kindRight := kind >= 0 && kind <= 2
		for _, base := range []api.Paint{{Kind: kind}, painted(kind, at(bound, -bound), at(-bound, bound), -bound), painted(kind, at(-bound, bound), at(bound, -bound), bound)} {
			if Right(base) != kindRight {
				t.Errorf("P16.1: Right(%v): %v", base, !kindRight)
			}
			for i := range fields(&base) {
				for _, v := range values {
					p := base
					*fields(&p)[i] = v
					want := kindRight && v >= -67108864 && v <= 67108864
					if got := Right(p); got != want {
						t.Errorf("P16.1: Right(%v): %v, want %v", p, got, want)
					}
				}
			}
		}
	}
}
