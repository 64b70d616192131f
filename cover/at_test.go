package cover

import (
	"math/rand"
	"testing"

	"mutoscope/api"
)

// eighth of a pixel: its places stand at 1, 3, 5 and 7 of them.
const eighth = 8192

// part is a rect, in eighths, of the pixel x, y.
func part(x, y int, x0, y0, x1, y1 int64) api.Poly {
	left, top := int64(x)*one, int64(y)*one
	return rect(left+x0*eighth, top+y0*eighth, left+x1*eighth, top+y1*eighth)
}

// wantAt goes from place to place, all of them written out.
func wantAt(l []api.Poly, rule, x, y int) int {
	if x < -256 || x > 256 || y < -256 || y > 256 {
		return 0
	}
	n := 0
	for _, dx := range []int64{8192, 24576, 40960, 57344} {
		for _, dy := range []int64{8192, 24576, 40960, 57344} {
			wind := wantWind(l, int64(x)*65536+dx, int64(y)*65536+dy)
			odd := wind%2 == 1 || wind%2 == -1
			if rule == 0 && wind != 0 || rule == 1 && odd {
				n++
			}
		}
	}
	return n
}

// checkAt looks whether what is handed in, and the room behind it, stays as it was too.
func checkAt(t *testing.T, l []api.Poly, rule, x, y, want int) {
	t.Helper()
	given := guard(l)
	was := copied(given)
	if got := At(given, rule, x, y); got != want {
		t.Fatalf("P15.1: At(%v, %d, %d, %d): %d, want %d", l, rule, x, y, got, want)
	}
	if !alike(copied(given), was) {
		t.Fatalf("R2: At(%v, %d, %d, %d) changed what was handed in to %v", l, rule, x, y, copied(given))
	}
	if got := At(l, rule, x, y); got != want {
		t.Fatalf("R5: At(%v, %d, %d, %d) without room behind it: %d, want %d", l, rule, x, y, got, want)
	}
	if got := At(turned(l), rule, x, y); got != want {
		t.Fatalf("P15.1: At(%v, %d, %d, %d) with each Closed turned: %d, want %d", l, rule, x, y, got, want)
	}
}

// somePixels are pixels all about, the first and last ones too.
var somePixels = [][2]int{{0, 0}, {-1, 0}, {0, -1}, {3, 5}, {-7, -2}, {-256, 0}, {0, -256}, {256, 9}, {-9, 256}, {256, 256}, {-256, -256}, {-256, 256}, {255, -255}}

func TestFull(t *testing.T) {
	if Full != 16 {
		t.Fatalf("P15.1: Full: %d", Full)
	}
	checkAt(t, list(part(0, 0, 0, 0, 8, 8)), api.NonZero, 0, 0, Full)
}

func TestAtOfNone(t *testing.T) {
	for _, l := range [][]api.Poly{nil, {}, {{}}, {{Closed: true}}, {{P: []api.Point{}}}, {open(eighth, eighth)}, {ring(eighth, eighth)}, {open(0, 0, one, one)}, {ring(0, one, one, 0)}, {open(eighth, 0, eighth, one)}, {open(0, 0, one, one, eighth, eighth)}} {
		for _, rule := range []int{0, 1, 2, -1, low, high} {
			for _, p := range somePixels {
				checkAt(t, l, rule, p[0], p[1], 0)
			}
		}
	}
}

// TestAtOfOneRect has one number for all ways: each way round, and by either rule.
func TestAtOfOneRect(t *testing.T) {
	for _, c := range []struct {
		x0, y0, x1, y1 int64
		want           int
	}{
		// All of it, and more.
		{0, 0, 8, 8, 16}, {-8, -8, 16, 16, 16}, {-1, -1, 9, 9, 16}, {-4096, -4096, 4096, 4096, 16},
		// As little as has all its places, and one place's row or column less.
		{1, 1, 8, 8, 16}, {2, 1, 8, 8, 12}, {1, 2, 8, 8, 12}, {1, 1, 7, 8, 12}, {1, 1, 8, 7, 12}, {2, 2, 7, 7, 4}, {2, 2, 8, 8, 9}, {1, 1, 7, 7, 9},
		// Halves, quarters.
		{0, 0, 4, 8, 8}, {4, 0, 8, 8, 8}, {0, 0, 8, 4, 8}, {0, 4, 8, 8, 8}, {0, 2, 8, 6, 8}, {2, 0, 6, 8, 8},
		{0, 0, 2, 8, 4}, {6, 0, 8, 8, 4}, {0, 0, 8, 2, 4}, {0, 6, 8, 8, 4}, {0, 0, 4, 4, 4}, {4, 4, 8, 8, 4}, {0, 4, 4, 8, 4}, {4, 0, 8, 4, 4},
		// Of places on a side the ones of the lesser X and Y are within, those of the greater are not.
		{1, 0, 3, 8, 4}, {3, 0, 5, 8, 4}, {5, 0, 7, 8, 4}, {7, 0, 9, 8, 4}, {-1, 0, 1, 8, 0}, {0, 1, 8, 3, 4}, {0, 3, 8, 5, 4}, {0, 5, 8, 7, 4}, {0, 7, 8, 9, 4}, {0, -1, 8, 1, 0},
		{1, 1, 3, 3, 1}, {3, 5, 5, 7, 1}, {7, 7, 8, 8, 1}, {7, 7, 9, 9, 1}, {1, 1, 7, 7, 9}, {3, 3, 7, 7, 4},
		// Between the places, and past them.
		{0, 0, 1, 8, 0}, {0, 0, 8, 1, 0}, {2, 0, 3, 8, 0}, {0, 2, 8, 3, 0}, {2, 2, 3, 3, 0}, {4, 4, 5, 5, 0}, {6, 0, 7, 8, 0},
		{0, 0, 1, 1, 0}, {-8, 0, 0, 8, 0}, {8, 0, 16, 8, 0}, {0, -8, 8, 0, 0}, {0, 8, 8, 16, 0}, {8, 8, 16, 16, 0}, {-8, -8, 0, 0, 0}, {-4096, 8, 4096, 4096, 0}, {-4096, -4096, 0, 4096, 0},
		// Of no width, of no height.
		{3, 0, 3, 8, 0}, {0, 3, 8, 3, 0}, {3, 3, 3, 3, 0},
	} {
		for _, p := range somePixels {
			l := list(part(p[0], p[1], c.x0, c.y0, c.x1, c.y1))
			for rule := range 2 {
				checkAt(t, l, rule, p[0], p[1], c.want)
				checkAt(t, list(back(l[0])), rule, p[0], p[1], c.want)
			}
			checkAt(t, l, 2, p[0], p[1], 0)
		}
	}
}

// TestAtOfEachPlace moves a rect's sides onto each place, and by one past it, the other way too.
func TestAtOfEachPlace(t *testing.T) {
	for i := range int64(4) {
		for j := range int64(4) {
			x, y := (2*i+1)*eighth, (2*j+1)*eighth
			checkAt(t, list(rect(x, y, x+1, y+1)), 0, 0, 0, 1)
			checkAt(t, list(rect(x, y, x+1, y+1)), 1, 0, 0, 1)
			checkAt(t, list(rect(x-1, y-1, x, y)), 0, 0, 0, 0)
			checkAt(t, list(rect(x+1, y, x+2, y+1)), 0, 0, 0, 0)
			checkAt(t, list(rect(x, y+1, x+1, y+2)), 0, 0, 0, 0)
			checkAt(t, list(rect(x, y-1, x+1, y)), 0, 0, 0, 0)
			checkAt(t, list(rect(x-1, y, x, y+1)), 0, 0, 0, 0)
			checkAt(t, list(rect(x-one, y, x-one+1, y+1)), 0, -1, 0, 1)
			checkAt(t, list(rect(x, y-one, x+1, y-one+1)), 0, 0, -1, 1)
			// From a place on, all that follow it in X and Y; up to one, all that are ahead.
			checkAt(t, list(rect(x, y, one, one)), 0, 0, 0, int((4-i)*(4-j)))
			checkAt(t, list(rect(x+1, y+1, one, one)), 0, 0, 0, int((3-i)*(3-j)))
			checkAt(t, list(rect(0, 0, x, y)), 0, 0, 0, int(i*j))
			checkAt(t, list(rect(0, 0, x+1, y+1)), 0, 0, 0, int((i+1)*(j+1)))
		}
	}
}

func TestAtByRule(t *testing.T) {
	whole, in, hole := part(0, 0, -8, -8, 16, 16), part(0, 0, 0, 0, 4, 8), part(0, 0, 2, 2, 6, 6)
	half := part(0, 0, 4, 0, 8, 8)
	for _, c := range []struct {
		l             []api.Poly
		nonZero, odds int
	}{
		// Over each other: the same way round, the other way, both.
		{list(whole, hole), 16, 12}, {list(whole, back(hole)), 12, 12}, {list(back(whole), hole), 12, 12}, {list(back(whole), back(hole)), 16, 12},
		{list(hole, whole), 16, 12}, {list(back(hole), whole), 12, 12},
		{list(whole, hole, hole), 16, 16}, {list(whole, back(hole), back(hole)), 16, 16}, {list(whole, hole, back(hole)), 16, 16}, {list(whole, whole, back(hole)), 16, 4}, {list(whole, whole, back(hole), back(hole)), 12, 0},
		{list(whole, whole), 16, 0}, {list(whole, whole, whole), 16, 16}, {list(back(whole), back(whole)), 16, 0}, {list(back(whole), back(whole), back(whole)), 16, 16}, {list(whole, back(whole)), 0, 0}, {list(whole, back(whole), whole), 16, 16},
		{list(in, in, in, hole), 10, 8}, {list(in, in, in, back(hole)), 10, 8}, {list(in, back(hole), back(hole), back(hole)), 10, 8},
		// Next to each other: no place counts twice, none is left out.
		{list(in, half), 16, 16}, {list(in, back(half)), 16, 16}, {list(in, part(0, 0, 3, 0, 8, 8)), 16, 12}, {list(in, back(part(0, 0, 3, 0, 8, 8))), 12, 12}, {list(in, part(0, 0, 5, 0, 8, 8)), 16, 16}, {list(in, part(0, 0, 6, 0, 8, 8)), 12, 12},
		// With those of no number.
		{list(api.Poly{}, open(0, 0, one, one), in, ring(eighth, eighth)), 8, 8},
	} {
		checkAt(t, c.l, api.NonZero, 0, 0, c.nonZero)
		checkAt(t, c.l, api.EvenOdd, 0, 0, c.odds)
		for _, rule := range []int{low, -257, -2, -1, 2, 3, 4, 256, 257, 1 << 32, 1<<32 + 1, high} {
			checkAt(t, c.l, rule, 0, 0, 0)
		}
	}
}

func TestAtOfSlantedSides(t *testing.T) {
	for i, c := range []struct {
		l    []api.Poly
		want int
	}{
		// Halves of a pixel, from corner to corner: the four places on that line are within where the part of the lesser X is not.
		{list(open(0, 0, one, 0, 0, one)), 6}, {list(open(one, 0, one, one, 0, one)), 10},
		{list(open(0, 0, one, one, 0, one)), 6}, {list(open(0, 0, one, 0, one, one)), 10},
		{list(open(0, 0, one, 0, 0, one), open(one, 0, one, one, 0, one)), 16}, {list(open(0, 0, one, one, 0, one), open(0, 0, one, 0, one, one)), 16},
		// One more to a side, or one less.
		{list(open(1, 0, one+1, 0, 1, one)), 10}, {list(open(-1, 0, one-1, 0, -1, one)), 6}, {list(open(0, 1, one, 1, 0, one+1)), 10},
		// A tip, a thin one, one that reaches from pixel to pixel.
		{list(open(0, 0, one, 0, one/2, one)), 8}, {list(open(-one, 0, 0, 2*eighth, one, 4*eighth, 0, 6*eighth)), 4}, {list(open(-one, 0, 0, 3*eighth, one, 4*eighth, 0, 5*eighth)), 0}, {list(open(-9*one, -9*one, 9*one, -9*one, 9*one, 9*one)), 10}, {list(open(-far, -far, far, far, far, -far)), 10}, {list(open(-far, far, far, -far, far, far)), 16}, {list(open(-far, far, far, -far, -far, -far)), 0}, {list(open(one-far, far, far, one-far, far, far)), 10}, {list(open(one-far, far, far, one-far, -far, -far)), 6},
		{list(open(least, least, most, most, most, least)), 10}, {list(open(least, most, most, least, least, least)), 0},
	} {
		if got := wantAt(c.l, 0, 0, 0); got != c.want {
			t.Fatalf("case %d: the test's own reckoning: %d, want %d", i, got, c.want)
		}
		checkAt(t, c.l, 0, 0, 0, c.want)
		checkAt(t, c.l, 1, 0, 0, c.want)
	}
}

// TestAtBounds: of polys that cover all there is.
func TestAtBounds(t *testing.T) {
	all := []int{low, low + 1, -1 << 48, -1 << 32, 3 - 1<<32, -65536, -8192, -512, -258, -257, -256, -255, -1, 0, 1, 255, 256, 257, 258, 512, 8191, 8192, 65536, 1<<32 - 3, 1 << 32, 1<<32 + 3, 1 << 47, 1 << 48, 1<<48 + 3, 1 << 62, high - 1, high}
	for _, l := range [][]api.Poly{list(rect(-far, -far, far, far)), list(rect(least, least, most, most)), list(back(rect(least, least, most, most)))} {
		for _, x := range all {
			for _, y := range all {
				want := 0
				if x >= -256 && x <= 256 && y >= -256 && y <= 256 {
					want = 16
				}
				checkAt(t, l, 0, x, y, want)
				checkAt(t, l, 1, x, y, want)
				checkAt(t, l, 2, x, y, 0)
			}
		}
	}
	// Half of the last pixels, of each side.
	checkAt(t, list(part(256, 256, 0, 0, 4, 8)), 0, 256, 256, 8)
	checkAt(t, list(part(-256, -256, 0, 0, 8, 4)), 0, -256, -256, 8)
	checkAt(t, list(part(257, 0, 0, 0, 8, 8)), 0, 257, 0, 0)
	checkAt(t, list(part(-257, 0, 0, 0, 8, 8)), 0, -257, 0, 0)
	checkAt(t, list(part(0, 257, 0, 0, 8, 8)), 0, 0, 257, 0)
	checkAt(t, list(part(0, -257, 0, 0, 8, 8)), 0, 0, -257, 0)
}

// inPixels are numbers of a few pixels about 0: on places and pixels' edges, next to them, anywhere; and of any size.
func inPixels(r *rand.Rand) int64 {
	switch r.Intn(8) {
	case 0:
		return someNumber(r)
	case 1:
		return r.Int63n(6*one) - 3*one
	case 2:
		return (r.Int63n(48)-24)*eighth + r.Int63n(3) - 1
	}
	return (r.Int63n(48) - 24) * eighth
}

func TestAt(t *testing.T) {
	r := rand.New(rand.NewSource(153))
	rules := []int{0, 0, 0, 1, 1, 1, 2, -1}
	for range 1500 {
		l := somePolys(r, inPixels)
		rule, x, y := rules[r.Intn(len(rules))], r.Intn(8)-4, r.Intn(8)-4
		checkAt(t, l, rule, x, y, wantAt(l, rule, x, y))
	}
}

// TestAtAnywhere: in pixels up to the last ones, and past them.
func TestAtAnywhere(t *testing.T) {
	r := rand.New(rand.NewSource(154))
	for range 500 {
		x, y := r.Intn(520)-260, r.Intn(520)-260
		about := func(r *rand.Rand) int64 { return inPixels(r) + int64([]int{x, y}[r.Intn(2)])*one }
		l := append(somePolys(r, about), part(x, y, r.Int63n(8), r.Int63n(8), r.Int63n(16), r.Int63n(16)))
		for rule := range 2 {
			checkAt(t, l, rule, x, y, wantAt(l, rule, x, y))
		}
	}
}
