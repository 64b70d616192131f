package shape

import (
	"math"
	"math/big"
	"slices"
	"testing"

	"mutoscope/api"
	"mutoscope/path"
)

const (
	one   = int64(api.One)
	near  = int64(api.Near)
	far   = int64(api.Far)
	great = int64(api.Great)
	least = int64(math.MinInt64)
	most  = int64(math.MaxInt64)
)

func at(x, y int64) api.Point { return api.Point{X: x, Y: y} }

// ring is a closed path of the numbers in pairs.
func ring(numbers ...int64) api.Path {
	p := api.Path{Closed: true}
	for i := 0; i+1 < len(numbers); i += 2 {
		p.P = append(p.P, at(numbers[i], numbers[i+1]))
	}
	return p
}

// like holds two paths against each other without a call of the project's.
func like(a, b api.Path) bool {
	return a.Closed == b.Closed && slices.Equal(a.P, b.P)
}

// spoil writes into all of an answer, its spare room too.
func spoil(p api.Path) {
	whole := p.P[:cap(p.P)]
	for i := range whole {
		whole[i] = at(-123456789, 987654321)
	}
}

// The reckoning below is the chapters', in numbers without a size; it calls nothing of q and trig.

func wide(a int64) *big.Int { return big.NewInt(a) }

// down is a by b, rounded down; b is above 0.
func down(a, b *big.Int) *big.Int { return new(big.Int).Div(a, b) }

func times(a, b *big.Int) *big.Int { return new(big.Int).Mul(a, b) }

func wantHeld(a *big.Int) *big.Int {
	if a.CmpAbs(wide(great)) <= 0 {
		return a
	}
	return wide(great * int64(a.Sign()))
}

func wantMul(a, b *big.Int) *big.Int {
	return wantHeld(down(times(wantHeld(a), wantHeld(b)), wide(one)))
}

func wantSin(angle *big.Int) *big.Int {
	half := wide(180 * one)
	x := new(big.Int).Mod(angle, wide(360*one))
	sign := wide(1)
	if x.Cmp(half) >= 0 {
		x.Sub(x, half)
		sign = wide(-1)
	}
	p := down(times(x, new(big.Int).Sub(half, x)), wide(one))
	rest := new(big.Int).Sub(wide(40500*one), p)
	return times(sign, down(times(wide(4*one), p), rest))
}

func wantCos(angle *big.Int) *big.Int {
	return wantSin(new(big.Int).Add(angle, wide(90*one)))
}

// wantStraight has its points by how often each place is met: three times, but the first one twice ahead of the round and twice behind it.
func wantStraight(places []api.Point) api.Path {
	p := api.Path{Closed: true}
	for i := range 3*len(places) + 1 {
		p.P = append(p.P, places[(i+1)/3%len(places)])
	}
	return p
}

func wantRect(w, h int64) api.Path {
	a, b := down(wide(w), wide(2)), down(wide(h), wide(2))
	left, top := new(big.Int).Neg(a).Int64(), new(big.Int).Neg(b).Int64()
	right, low := new(big.Int).Sub(wide(w), a).Int64(), new(big.Int).Sub(wide(h), b).Int64()
	return wantStraight([]api.Point{at(left, top), at(right, top), at(right, low), at(left, low)})
}

// wantOval mirrors its first part to the left, and what it has then round the middle.
func wantOval(w, h int64) api.Path {
	a, b := down(wide(w), wide(2)), down(wide(h), wide(2))
	k, l := wantMul(a, wide(36195)), wantMul(b, wide(36195))
	p := make([]api.Point, 13)
	p[0], p[1], p[2], p[3] = at(a.Int64(), 0), at(a.Int64(), l.Int64()), at(k.Int64(), b.Int64()), at(0, b.Int64())
	for i := range 3 {
		p[6-i] = at(-p[i].X, p[i].Y)
	}
	for i := range 7 {
		p[6+i] = at(-p[i].X, -p[i].Y)
	}
	return api.Path{Closed: true, P: p}
}

func wantStar(n int, r, s int64) api.Path {
	points := min(max(n, 2), 16)
	var places []api.Point
	for j := range points {
		for k, size := range []int64{r, s} {
			angle := down(wide(int64(2*j+k)*180*one), wide(int64(points)))
			angle.Sub(angle, wide(90*one))
			places = append(places, at(wantMul(wide(size), wantCos(angle)).Int64(), wantMul(wide(size), wantSin(angle)).Int64()))
		}
	}
	return wantStraight(places)
}

// checkTwice looks whether an answer is memory of its own too: a later one is as it must be when the first is written into.
func checkTwice(t *testing.T, name string, numbers []int64, ask func() api.Path, want api.Path) {
	t.Helper()
	for range 2 {
		got := ask()
		if !like(got, want) {
			t.Fatalf("P13.1: %s of %v: %v, want %v", name, numbers, got, want)
		}
		spoil(got)
	}
}

func checkRect(t *testing.T, w, h int64, want api.Path) {
	t.Helper()
	checkTwice(t, "Rect", []int64{w, h}, func() api.Path { return Rect(w, h) }, want)
}

func checkOval(t *testing.T, w, h int64, want api.Path) {
	t.Helper()
	checkTwice(t, "Oval", []int64{w, h}, func() api.Path { return Oval(w, h) }, want)
}

func checkStar(t *testing.T, n int, r, s int64, want api.Path) {
	t.Helper()
	checkTwice(t, "Star", []int64{int64(n), r, s}, func() api.Path { return Star(n, r, s) }, want)
}

// edges: numbers round which a call may change its mind, both signs, and those beside them; and the ends of int64.
func edges() []int64 {
	out := []int64{0, least, least + 1, least + 2, most, most - 1, most - 2}
	for _, n := range []int64{2, 5, one / 2, one, 3 * one, near, far, 1 << 31, 1 << 32, great, 2 * great, 1 << 53, 1 << 62} {
		for _, e := range []int64{n - 1, n, n + 1} {
			out = append(out, e, -e)
		}
	}
	return out
}

// counts: how many points a star is asked for: all round its bounds, the ends of all numbers, and those that look right where their tops are lost.
func counts() []int {
	out := []int{math.MinInt, math.MinInt + 1, math.MaxInt, math.MaxInt - 1, -1 << 32, 1 << 32, 1<<32 + 5, 5 - 1<<32, 1<<16 + 5, 1<<8 + 5, 5 - 1<<8, -100, 97, 100, 1 << 20}
	for n := -20; n <= 40; n++ {
		out = append(out, n)
	}
	return out
}

func TestRect(t *testing.T) {
	for _, c := range []struct {
		w, h int64
		want api.Path
	}{
		{0, 0, ring(0, 0, 0, 0, 0, 0, 0, 0, 0, 0, 0, 0, 0, 0, 0, 0, 0, 0, 0, 0, 0, 0, 0, 0, 0, 0)},
		{2 * one, 2 * one, ring(-one, -one, -one, -one, one, -one, one, -one, one, -one, one, one, one, one, one, one, -one, one, -one, one, -one, one, -one, -one, -one, -one)},
		{8, 4, ring(-4, -2, -4, -2, 4, -2, 4, -2, 4, -2, 4, 2, 4, 2, 4, 2, -4, 2, -4, 2, -4, 2, -4, -2, -4, -2)},
		// Odd: the far places have the one that is left.
		{7, 3, ring(-3, -1, -3, -1, 4, -1, 4, -1, 4, -1, 4, 2, 4, 2, 4, 2, -3, 2, -3, 2, -3, 2, -3, -1, -3, -1)},
		{1, 0, ring(0, 0, 0, 0, 1, 0, 1, 0, 1, 0, 1, 0, 1, 0, 1, 0, 0, 0, 0, 0, 0, 0, 0, 0, 0, 0)},
		{0, 1, ring(0, 0, 0, 0, 0, 0, 0, 0, 0, 0, 0, 1, 0, 1, 0, 1, 0, 1, 0, 1, 0, 1, 0, 0, 0, 0)},
		// Below 0 the near places are the far ones; half of -7 is -4, of -3 -2, of -1 -1.
		{-8, -4, ring(4, 2, 4, 2, -4, 2, -4, 2, -4, 2, -4, -2, -4, -2, -4, -2, 4, -2, 4, -2, 4, -2, 4, 2, 4, 2)},
		{-7, -3, ring(4, 2, 4, 2, -3, 2, -3, 2, -3, 2, -3, -1, -3, -1, -3, -1, 4, -1, 4, -1, 4, -1, 4, 2, 4, 2)},
		{-1, 6, ring(1, -3, 1, -3, 0, -3, 0, -3, 0, -3, 0, 3, 0, 3, 0, 3, 1, 3, 1, 3, 1, 3, 1, -3, 1, -3)},
		{6, -1, ring(-3, 1, -3, 1, 3, 1, 3, 1, 3, 1, 3, 0, 3, 0, 3, 0, -3, 0, -3, 0, -3, 0, -3, 1, -3, 1)},
	} {
		checkRect(t, c.w, c.h, c.want)
	}
}

// Nothing is held, and nothing goes round, not even at the ends of int64.
func TestRectAtTheEnds(t *testing.T) {
	const half = int64(1 << 62)
	for _, c := range []struct{ size, a, b int64 }{
		{most, 1 - half, half}, {most - 1, 1 - half, half - 1}, {most - 2, 2 - half, half - 1},
		{least, half, -half}, {least + 1, half, 1 - half}, {least + 2, half - 1, 1 - half},
	} {
		a, b := c.a, c.b
		checkRect(t, c.size, 4, ring(a, -2, a, -2, b, -2, b, -2, b, -2, b, 2, b, 2, b, 2, a, 2, a, 2, a, 2, a, -2, a, -2))
		checkRect(t, 4, c.size, ring(-2, a, -2, a, 2, a, 2, a, 2, a, 2, b, 2, b, 2, b, -2, b, -2, b, -2, b, -2, a, -2, a))
	}
}

func TestOval(t *testing.T) {
	for _, c := range []struct {
		w, h int64
		want api.Path
	}{
		{0, 0, ring(0, 0, 0, 0, 0, 0, 0, 0, 0, 0, 0, 0, 0, 0, 0, 0, 0, 0, 0, 0, 0, 0, 0, 0, 0, 0)},
		{2 * one, 2 * one, ring(one, 0, one, 36195, 36195, one, 0, one, -36195, one, -one, 36195, -one, 0, -one, -36195, -36195, -one, 0, -one, 36195, -one, one, -36195, one, 0)},
		{2 * one, 6 * one, ring(one, 0, one, 108585, 36195, 3*one, 0, 3*one, -36195, 3*one, -one, 108585, -one, 0, -one, -108585, -36195, -3*one, 0, -3*one, 36195, -3*one, one, -108585, one, 0)},
		// k 5.52.., l 2.20..; odd ones are as wide as the even ones ahead of them.
		{20, 8, ring(10, 0, 10, 2, 5, 4, 0, 4, -5, 4, -10, 2, -10, 0, -10, -2, -5, -4, 0, -4, 5, -4, 10, -2, 10, 0)},
		{21, 9, ring(10, 0, 10, 2, 5, 4, 0, 4, -5, 4, -10, 2, -10, 0, -10, -2, -5, -4, 0, -4, 5, -4, 10, -2, 10, 0)},
		// Below 0 k and l are rounded down, so away from the middle: -5.52.. to -6, -2.20.. to -3.
		{-20, -8, ring(-10, 0, -10, -3, -6, -4, 0, -4, 6, -4, 10, -3, 10, 0, 10, 3, 6, 4, 0, 4, -6, 4, -10, 3, -10, 0)},
		{-19, -7, ring(-10, 0, -10, -3, -6, -4, 0, -4, 6, -4, 10, -3, 10, 0, 10, 3, 6, 4, 0, 4, -6, 4, -10, 3, -10, 0)},
		{-1, 8, ring(-1, 0, -1, 2, -1, 4, 0, 4, 1, 4, 1, 2, 1, 0, 1, -2, 1, -4, 0, -4, -1, -4, -1, -2, -1, 0)},
		{1, 1, ring(0, 0, 0, 0, 0, 0, 0, 0, 0, 0, 0, 0, 0, 0, 0, 0, 0, 0, 0, 0, 0, 0, 0, 0, 0, 0)},
		{0, 2 * one, ring(0, 0, 0, 36195, 0, one, 0, one, 0, one, 0, 36195, 0, 0, 0, -36195, 0, -one, 0, -one, 0, -one, 0, -36195, 0, 0)},
	} {
		checkOval(t, c.w, c.h, c.want)
	}
}

// Halves are not held, what is reckoned of them is: q.Mul holds a and b first.
func TestOvalAtTheEnds(t *testing.T) {
	bulge := great / one * 36195
	for _, c := range []struct{ size, a, l int64 }{
		{2 * great, great, bulge}, {2*great + 1, great, bulge}, {2*great + 2, great + 1, bulge}, {4 * great, 2 * great, bulge},
		{most, 1<<62 - 1, bulge}, {most - 1, 1<<62 - 1, bulge}, {least, -1 << 62, -bulge}, {least + 1, -1 << 62, -bulge}, {-2*great - 1, -great - 1, -bulge},
	} {
		a, l := c.a, c.l
		checkOval(t, c.size, 8, ring(a, 0, a, 2, l, 4, 0, 4, -l, 4, -a, 2, -a, 0, -a, -2, -l, -4, 0, -4, l, -4, a, -2, a, 0))
		checkOval(t, 20, c.size, ring(10, 0, 10, l, 5, a, 0, a, -5, a, -10, l, -10, 0, -10, -l, -5, -a, 0, -a, 5, -a, 10, -l, 10, 0))
	}
}

func TestRectAndOvalOfAnySize(t *testing.T) {
	list := edges()
	for n := int64(-40); n <= 40; n++ {
		list = append(list, n, n*12345)
	}
	for _, w := range list {
		for _, h := range list {
			checkRect(t, w, h, wantRect(w, h))
			checkOval(t, w, h, wantOval(w, h))
		}
	}
}

// The places of stars: the first one is at the top, where angles below 0 are; r and s by turns.
func TestStarPlaces(t *testing.T) {
	for _, c := range []struct {
		n    int
		r, s int64
		want []api.Point
	}{
		{2, 10, 4, ring(0, -10, 4, 0, 0, 10, -4, 0).P},
		{2, 0, 4, ring(0, 0, 4, 0, 0, 0, -4, 0).P},
		{2, 4, 0, ring(0, -4, 0, 0, 0, 4, 0, 0).P},
		{2, -10, -4, ring(0, 10, -4, 0, 0, -10, 4, 0).P},
		{3, one, one / 2, ring(0, -65536, 28339, -16384, 56679, 32768, 0, 32768, -56679, 32768, -28340, -16384).P},
		// Of -7 and 10 by 46260, what is left by One is rounded down on both sides.
		{4, 10, -7, ring(0, -10, -5, 4, 10, 0, -5, -5, 0, 10, 4, -5, -10, 0, 4, 4).P},
		{5, 4 * one, one, ring(0, -262144, 38479, -52932, 249164, -81352, 62291, 20338, 153916, 211728, 0, 65536, -153916, 211728, -62291, 20338, -249164, -81352, -38479, -52932).P},
		{6, -3 * one, one + 1, ring(0, 196608, 32768, -56680, -170037, 98304, 65537, 0, -170037, -98304, 32768, 56679, 0, -196608, -32769, 56679, 170037, -98304, -65537, 0, 170037, 98304, -32769, -56680).P},
		// 180 by 7 leaves a rest: the half way is met all the same, as it is the whole that is divided.
		{7, near, near / 2, ring(0, -67108864, 14575616, -30198784, 52377600, -41784320, 32702464, -7520768, 65404928, 15041536, 26188800, 20892160, 29151232, 60397568, 0, 33554432, -29151232, 60397568, -26188800, 20892160, -65404928, 15041536, -32702464, -7520768, -52377600, -41784320, -14575616, -30198784).P},
	} {
		checkStar(t, c.n, c.r, c.s, wantStraight(c.want))
	}
}

func TestStarPoints(t *testing.T) {
	four := ring(0, -10, 0, -10, 4, 0, 4, 0, 4, 0, 0, 10, 0, 10, 0, 10, -4, 0, -4, 0, -4, 0, 0, -10, 0, -10)
	for _, n := range []int{2, 1, 0, -1, -2, -100, 2 - 1<<32, 3 - 1<<32, math.MinInt, math.MinInt + 1} {
		checkStar(t, n, 10, 4, four)
	}
	for _, n := range []int{16, 17, 18, 99, 256 + 3, 1<<16 + 3, 1<<32 + 3, math.MaxInt - 1, math.MaxInt} {
		if got := Star(n, 10*one, 4*one); len(got.P) != api.MaxPoints || !like(got, wantStar(16, 10*one, 4*one)) {
			t.Errorf("P13.1: Star(%d) has %d points: %v", n, len(got.P), got)
		}
	}
	for _, c := range []struct {
		n, points int
	}{{1, 13}, {2, 13}, {3, 19}, {4, 25}, {5, 31}, {6, 37}, {7, 43}, {8, 49}, {9, 55}, {10, 61}, {11, 67}, {12, 73}, {13, 79}, {14, 85}, {15, 91}, {16, 97}, {17, 97}} {
		if got := Star(c.n, one, 2); len(got.P) != c.points {
			t.Errorf("P13.1: Star(%d): %d points, want %d", c.n, len(got.P), c.points)
		}
	}
}

func TestStarOfAnySize(t *testing.T) {
	for _, n := range counts() {
		for _, r := range edges() {
			for _, s := range []int64{r, -r, r / 2, r/3 + 1, 0, 7, -7, one, great + 1, most, least} {
				checkStar(t, n, r, s, wantStar(n, r, s))
			}
		}
	}
}

func checkRound(t *testing.T, name string, p api.Path) {
	t.Helper()
	if !p.Closed || len(p.P)%3 != 1 || p.P[0] != p.P[len(p.P)-1] {
		t.Fatalf("P13.1: %s does not come back to its first place: %v", name, p)
	}
}

func checkStraight(t *testing.T, name string, p api.Path) {
	t.Helper()
	for i := 0; i+3 < len(p.P); i += 3 {
		if p.P[i+1] != p.P[i] || p.P[i+2] != p.P[i+3] {
			t.Fatalf("P13.1: %s: the part from %d on is not straight: %v", name, i, p)
		}
	}
}

// Each path comes back to its first place, and each point that bends a straight part is its beginning or its end.
func TestStraightAndRound(t *testing.T) {
	for _, size := range edges() {
		for _, p := range []api.Path{Rect(size, 3*one), Rect(5, size)} {
			checkRound(t, "a Rect", p)
			checkStraight(t, "a Rect", p)
		}
		checkRound(t, "an Oval", Oval(size, 3*one))
		checkRound(t, "an Oval", Oval(5, size))
		for _, n := range counts() {
			star := Star(n, size, 3*one)
			checkRound(t, "a Star", star)
			checkStraight(t, "a Star", star)
		}
	}
}

// What is asked of numbers that a document may have may stand in a document itself.
func TestFormsAreRightPaths(t *testing.T) {
	list := []int64{0, 1, -1, 7, one, -one, near - 1, near, 1 - near, -near}
	for _, a := range list {
		for _, b := range list {
			paths := []api.Path{Rect(a, b), Oval(a, b)}
			for n := 1; n <= 17; n++ {
				paths = append(paths, Star(n, a, b))
			}
			for i, p := range paths {
				if !path.Right(p) {
					t.Fatalf("P13.1: path %d of %d, %d is not right: %v", i, a, b, p)
				}
			}
		}
	}
}
