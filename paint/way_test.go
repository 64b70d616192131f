package paint

import (
	"math/rand"
	"testing"

	"mutoscope/api"
	"mutoscope/hue"
)

// checkWay looks at At too: it is the colour that far on the way.
func checkWay(t *testing.T, p api.Paint, x, y int, want int64) {
	t.Helper()
	if got := Way(p, x, y); got != want {
		t.Fatalf("P16.1: Way(%v, %d, %d): %d, want %d", p, x, y, got, want)
	}
	if got := At(p, x, y); got != hue.Mix(p.A, p.B, want) {
		t.Fatalf("P16.1: At(%v, %d, %d): %v, want %v", p, x, y, got, hue.Mix(p.A, p.B, want))
	}
	if got := Way(p, x, y); got != want {
		t.Fatalf("R4: Way(%v, %d, %d) a second time: %d, want %d", p, x, y, got, want)
	}
}

// checkReckoned looks at both calls by the reckoning without a size.
func checkReckoned(t *testing.T, p api.Paint, x, y int) {
	t.Helper()
	checkWay(t, p, x, y, wantWay(p, x, y))
	if got, want := At(p, x, y), wantAt(p, x, y); got != want {
		t.Fatalf("P16.1: At(%v, %d, %d): %v, want %v", p, x, y, got, want)
	}
}

func TestWayOfKindsWithout(t *testing.T) {
	for _, kind := range append(noKinds(), solid) {
		for _, r := range []int64{least, -1, 0, 1, 9 * one, most} {
			for _, x := range pixels() {
				for _, p := range []api.Paint{painted(kind, at(0, 0), at(9*one, 9*one), r), painted(kind, at(least, most), at(most, least), r)} {
					checkWay(t, p, x, -3, 0)
					checkWay(t, p, 5, x, 0)
					if got := At(p, x, x); got != first {
						t.Fatalf("P16.1: At(%v, %d, %d): %v, want A", p, x, x, got)
					}
				}
			}
		}
	}
}

func TestWayAlongByHand(t *testing.T) {
	half := one / 2
	for _, c := range []struct {
		p, to api.Point
		x, y  int
		want  int64
	}{
		// level: the row tells nothing
		{at(half, 0), at(8*one+half, 0), 0, 0, 0},
		{at(half, 0), at(8*one+half, 0), 2, 0, one / 4},
		{at(half, 0), at(8*one+half, 0), 2, -100, one / 4},
		{at(half, 0), at(8*one+half, 0), 8, 3, one},
		{at(half, 0), at(8*one+half, 0), 9, 3, one},
		{at(half, 0), at(8*one+half, 0), -1, 3, 0},
		{at(8*one+half, 0), at(half, 0), 2, 0, 3 * one / 4},
		{at(8*one+half, 0), at(half, 0), 9, 0, 0},
		{at(8*one+half, 0), at(half, 0), -1, 0, one},
		// upright: the column tells nothing
		{at(0, half), at(0, 8*one+half), 0, 0, 0},
		{at(0, half), at(0, 8*one+half), 77, 2, one / 4},
		{at(0, half), at(0, 8*one+half), -9, 8, one},
		{at(0, half), at(0, 8*one+half), 0, 9, one},
		{at(0, half), at(0, 8*one+half), 0, -1, 0},
		{at(0, 8*one+half), at(0, half), 5, 2, 3 * one / 4},
		// slanting: 3 along X, 4 along Y; 25 in all
		{at(half, half), at(3*one+half, 4*one+half), 0, 0, 0},
		{at(half, half), at(3*one+half, 4*one+half), 1, 0, 7864},
		{at(half, half), at(3*one+half, 4*one+half), 0, 1, 10485},
		{at(half, half), at(3*one+half, 4*one+half), 3, 0, 23592},
		{at(half, half), at(3*one+half, 4*one+half), 3, 4, one},
		{at(half, half), at(3*one+half, 4*one+half), -4, 3, 0},
		{at(half, half), at(3*one+half, 4*one+half), 4, -3, 0},
		{at(half, half), at(3*one+half, 4*one+half), -3, 4, 18350},
		{at(half, half), at(3*one+half, 4*one+half), 7, 1, one},
		{at(half, half), at(3*one+half, 4*one+half), 6, 1, 57671},
		{at(3*one+half, 4*one+half), at(half, half), 1, 0, 57671},
		{at(3*one+half, 4*one+half), at(half, half), 3, 4, 0},
		{at(3*one+half, 4*one+half), at(half, half), 0, 0, one},
		{at(3*one+half, 4*one+half), at(half, half), 4, 4, 0},
		// no way at all, and too short a one
		{at(9, 9), at(9, 9), 100, 100, 0},
		{at(0, 0), at(1, 0), 100, 100, 0},
		{at(0, 0), at(255, 0), 100, 100, 0},
		{at(0, 0), at(0, -255), 100, -100, 0},
		{at(0, 0), at(181, 181), 100, 100, 0},
		// just long enough
		{at(0, 0), at(256, 0), 100, 100, one},
		{at(0, 0), at(256, 0), -100, 100, 0},
		{at(0, 0), at(182, 181), 100, 100, one},
		{at(32768, 32768), at(32768+256, 32768), 0, 0, 0},
	} {
		checkWay(t, painted(linear, c.p, c.to, least), c.x, c.y, c.want)
		checkWay(t, painted(linear, c.p, c.to, most), c.x, c.y, c.want)
		checkReckoned(t, painted(linear, c.p, c.to, 0), c.x, c.y)
	}
}

// Each sum of products is rounded once, and only then.
func TestWayOfShortLinesIsRoundedOnce(t *testing.T) {
	for ex := int64(-400); ex <= 400; ex += 7 {
		for ey := int64(-400); ey <= 400; ey += 9 {
			for _, p := range []api.Point{at(one/2-3, one/2-5), at(one/2+100, one/2-200), at(one/2-255, one/2+255), at(one/2+1, one/2+1)} {
				checkReckoned(t, painted(linear, p, at(p.X+ex, p.Y+ey), 0), 0, 0)
			}
		}
	}
}

func TestWayOfCirclesByHand(t *testing.T) {
	half := one / 2
	for _, c := range []struct {
		p    api.Point
		r    int64
		x, y int
		want int64
	}{
		{at(half, half), 5 * one, 0, 0, 0},
		{at(half, half), 5 * one, 1, 0, one / 5},
		{at(half, half), 5 * one, 0, -1, one / 5},
		{at(half, half), 5 * one, 1, 1, 18536},
		{at(half, half), 5 * one, -2, 0, 26214},
		{at(half, half), 5 * one, 3, 4, one},
		{at(half, half), 5 * one, -4, -3, one},
		{at(half, half), 5 * one, 5, 0, one},
		{at(half, half), 5*one + 1, 5, 0, one - 1},
		{at(half, half), 5 * one, 5, 1, one},
		{at(half, half), 5 * one, 200, -200, one},
		{at(half, half), 10 * one, 3, 4, half},
		{at(2*one+half, -one+half), 10 * one, 5, 3, half},
		{at(half, half), 1, 0, 0, 0},
		{at(half, half), 1, 1, 0, one},
		{at(half+1, half), 1, 0, 0, one},
		{at(half+1, half), 2, 0, 0, half},
		{at(half, half-1), 3, 0, 0, 21845},
		{at(half, half), 0, 0, 0, one},
		{at(half, half), -1, 0, 0, one},
		{at(half, half), least, 0, 0, one},
		{at(half, half), 0, 9, 9, one},
		{at(half, half), -9 * one, 9, 9, one},
		{at(half, half), great, 1, 0, 0},
		{at(half, half), great, 256, 0, 1},
		{at(half, half), 1 << 31, 256, 0, 512},
		{at(half, half), great + 1, 256, 0, 1},
		{at(half, half), most, 256, 0, 1},
		{at(half, half), most, high, 0, 1},
	} {
		for _, to := range []api.Point{at(0, 0), c.p, at(most, least)} {
			checkWay(t, painted(radial, c.p, to, c.r), c.x, c.y, c.want)
			checkReckoned(t, painted(radial, c.p, to, c.r), c.x, c.y)
		}
	}
}

// someLines are of each way, each end first, of any length: next to one another, as far off as places may be, farther.
func someLines() [][2]api.Point {
	base := [][2]api.Point{
		{at(0, 0), at(8*one, 0)}, {at(0, 0), at(0, 8*one)}, {at(one, -one), at(4*one, 3*one)}, {at(-one/3, 5*one), at(100*one, -7*one)},
		{at(9, 9), at(9, 9)}, {at(9, 9), at(10, 9)}, {at(9, 9), at(9, 264)}, {at(9, 9), at(9, 265)}, {at(0, 0), at(181, 181)}, {at(0, 0), at(182, 181)},
		{at(-256*one, -256*one), at(257*one, 257*one)}, {at(-bound, bound), at(bound, -bound)},
		{at(-far, 0), at(far, 0)}, {at(-far, -far), at(far, far)}, {at(0, far-1), at(0, far)}, {at(far+1, 0), at(far, 0)}, {at(0, far), at(0, 2*far)},
		{at(least, most), at(most, least)}, {at(least, least), at(0, 0)}, {at(most, most), at(most-1, most-1)}, {at(most, 3), at(least, 3)}, {at(3, most), at(2*one, least)},
	}
	out := base
	for _, l := range base {
		out = append(out, [2]api.Point{l[1], l[0]})
	}
	return out
}

// someRs are below 0, 0, just above it, and those round which a number is held.
func someRs() []int64 {
	return []int64{least, -great, -far, -one, -1, 0, 1, 2, one - 1, one, one + 1, 7 * one, 256 * one, bound, bound + 1, far - 1, far, far + 1, 2 * far, 4 * far, great - 1, great, great + 1, 1 << 56, most}
}

func TestWayAtEachPixel(t *testing.T) {
	for _, l := range someLines() {
		for _, x := range pixels() {
			for _, y := range pixels() {
				checkReckoned(t, painted(linear, l[0], l[1], 5*one), x, y)
			}
		}
	}
	for _, l := range someLines() {
		for _, r := range someRs() {
			for _, x := range pixels() {
				checkReckoned(t, painted(radial, l[0], l[1], r), x, 3)
				checkReckoned(t, painted(radial, l[0], l[1], r), -4, x)
				checkReckoned(t, painted(radial, l[0], l[1], r), x, x)
			}
		}
	}
}

// Behind the last pixels nothing changes any more, and ahead of them everything does.
func TestWayHoldsPixels(t *testing.T) {
	level := painted(linear, at(-300*one, 0), at(300*one, 0), 0)
	upright := painted(linear, at(0, -300*one), at(0, 300*one), 0)
	circle := painted(radial, at(0, 0), at(0, 0), 1000*one)
	for _, c := range [][2]int{{257, 256}, {258, 256}, {high, 256}, {-257, -256}, {low, -256}, {1 << 48, 256}, {-(1 << 48), -256}, {1 << 47, 256}} {
		checkWay(t, level, c[0], 0, wantWay(level, c[1], 0))
		checkWay(t, upright, 0, c[0], wantWay(upright, 0, c[1]))
		checkWay(t, circle, c[0], 0, wantWay(circle, c[1], 0))
		checkWay(t, circle, 0, c[0], wantWay(circle, 0, c[1]))
	}
	for _, p := range []api.Paint{level, upright, circle} {
		for _, x := range []int{-256, 255} {
			if Way(p, x, x) == Way(p, x+1, x+1) {
				t.Errorf("P16.1: Way(%v): the same at %d and %d", p, x, x+1)
			}
		}
	}
}

func TestWayOfEachNumber(t *testing.T) {
	for _, kind := range []int{linear, radial} {
		for _, base := range []api.Paint{painted(kind, at(2*one, -3*one), at(7, 5*one), 4*one), painted(kind, at(0, 0), at(0, 0), 0), painted(kind, at(-far, far), at(far, -far), far)} {
			for i := range fields(&base) {
				for _, v := range edges() {
					p := base
					*fields(&p)[i] = v
					for _, x := range []int{low, -257, -256, -1, 0, 3, 256, 257, high} {
						checkReckoned(t, p, x, 2)
						checkReckoned(t, p, -2, x)
					}
				}
			}
		}
	}
}

func TestWayOfAny(t *testing.T) {
	r := rand.New(rand.NewSource(162))
	pick, pixel, kinds := picker(r), pixelPicker(r), allKinds()
	for i := 0; i < 60000; i++ {
		kind := 1 + r.Intn(2)
		if r.Intn(8) == 0 {
			kind = kinds[r.Intn(len(kinds))]
		}
		p := painted(kind, at(pick(), pick()), at(pick(), pick()), pick())
		if r.Intn(3) == 0 {
			p.Q = at(p.P.X+r.Int63n(600)-300, p.P.Y+r.Int63n(600)-300)
		}
		for k := range p.A {
			p.A[k], p.B[k] = uint8(r.Intn(256)), uint8(r.Intn(256))
		}
		checkReckoned(t, p, pixel(), pixel())
	}
}

func TestAtByHand(t *testing.T) {
	half := one / 2
	line := painted(linear, at(half, 0), at(4*one+half, 0), 0)
	circle := painted(radial, at(half, half), at(0, 0), 10*one)
	for _, c := range []struct {
		p    api.Paint
		x, y int
		want api.Color
	}{
		{painted(solid, at(0, 0), at(one, 0), one), 3, 4, first},
		{painted(solid, at(half, half), at(one, 0), 0), 0, 0, first},
		{painted(3, at(0, 0), at(one, 0), 0), 9, 9, first},
		{painted(-1, at(0, 0), at(one, 0), 0), 9, 9, first},
		{line, 0, 0, first},
		{line, 1, 5, api.Color{63, 175, 30, 191}},
		{line, 2, 5, api.Color{127, 150, 50, 127}},
		{line, 4, 5, second},
		{line, 9, 5, second},
		{line, -9, 5, first},
		{circle, 0, 0, first},
		{circle, 3, 4, api.Color{127, 150, 50, 127}},
		{circle, 6, 8, second},
		{circle, 60, 80, second},
		{painted(radial, at(half, half), at(0, 0), 0), 0, 0, second},
		{painted(radial, at(half, half), at(0, 0), 0), 9, 9, second},
		{painted(linear, at(half, half), at(half, half), 9), 0, 0, first},
		{painted(linear, at(half, half), at(half, half), 9), 9, 9, first},
	} {
		if got := At(c.p, c.x, c.y); got != c.want {
			t.Errorf("P16.1: At(%v, %d, %d): %v, want %v", c.p, c.x, c.y, got, c.want)
		}
	}
}
