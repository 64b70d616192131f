package arc

import (
	"math"
	"math/big"
	"math/rand"
	"slices"
	"testing"

	"mutoscope/api"
)

const (
	one   = int64(api.One)
	near  = int64(api.Near)
	far   = int64(api.Far)
	great = int64(api.Great)
	least = int64(math.MinInt64)
	most  = int64(math.MaxInt64)
)

func at(x, y int64) api.Point { return api.Point{X: x, Y: y} }

// points are the numbers in pairs.
func points(numbers ...int64) []api.Point {
	var out []api.Point
	for i := 0; i+1 < len(numbers); i += 2 {
		out = append(out, at(numbers[i], numbers[i+1]))
	}
	return out
}

func open(numbers ...int64) api.Poly { return api.Poly{P: points(numbers...)} }

func closed(numbers ...int64) api.Poly { return api.Poly{Closed: true, P: points(numbers...)} }

// The reckoning below is the chapter's, in numbers without a size.

func num(a int64) *big.Int { return big.NewInt(a) }

func held(a *big.Int, bound int64) *big.Int {
	if a.Cmp(num(-bound)) < 0 {
		return num(-bound)
	}
	if a.Cmp(num(bound)) > 0 {
		return num(bound)
	}
	return a
}

func wantPlace(p api.Point) api.Point {
	return at(held(num(p.X), far).Int64(), held(num(p.Y), far).Int64())
}

func wantHyp(a, b api.Point) *big.Int {
	x, y := new(big.Int).Sub(num(b.X), num(a.X)), new(big.Int).Sub(num(b.Y), num(a.Y))
	x.Mul(x, x)
	y.Mul(y, y)
	return x.Sqrt(x.Add(x, y))
}

// wantMid is the way from a to b, n by d of it: the share is rounded down first, and what it takes of the way, too.
func wantMid(a, b int64, n, d *big.Int) int64 {
	t := new(big.Int).Mul(n, num(one))
	t.Div(t, d)
	way := new(big.Int).Sub(num(b), num(a))
	way.Mul(way, t)
	way.Div(way, num(one))
	return way.Add(way, num(a)).Int64()
}

func wantOn(a, b api.Point, d, l *big.Int) api.Point {
	a, b, d = wantPlace(a), wantPlace(b), held(d, great)
	switch {
	case d.Sign() <= 0:
		return a
	case d.Cmp(l) >= 0:
		return b
	}
	l = held(l, great)
	return at(wantMid(a.X, b.X, d, l), wantMid(a.Y, b.Y, d, l))
}

// wantSides are the corners of each side, two by two.
func wantSides(p api.Poly) [][2]api.Point {
	var out [][2]api.Point
	for i := 1; i < len(p.P); i++ {
		out = append(out, [2]api.Point{wantPlace(p.P[i-1]), wantPlace(p.P[i])})
	}
	if n := len(p.P); p.Closed && n > 1 {
		out = append(out, [2]api.Point{wantPlace(p.P[n-1]), wantPlace(p.P[0])})
	}
	return out
}

// wantLength holds once at the end: none of what is added is below 0.
func wantLength(p api.Poly) int64 {
	sum := new(big.Int)
	for _, x := range wantSides(p) {
		sum.Add(sum, wantHyp(x[0], x[1]))
	}
	return held(sum, great).Int64()
}

func wantPart(p api.Poly, from, to int64) []api.Point {
	var out []api.Point
	f, t := held(num(from), great), held(num(to), great)
	if f.Cmp(t) >= 0 {
		return nil
	}
	s := new(big.Int)
	for _, x := range wantSides(p) {
		l := wantHyp(x[0], x[1])
		end := new(big.Int).Add(s, l)
		if l.Sign() > 0 && end.Cmp(f) > 0 && s.Cmp(t) < 0 {
			if out == nil {
				out = append(out, wantOn(x[0], x[1], new(big.Int).Sub(f, s), l))
			}
			out = append(out, wantOn(x[0], x[1], new(big.Int).Sub(t, s), l))
		}
		s = held(end, great)
	}
	return out
}

// guard hands l out with room behind it; changed says whether any of it, the room too, is not as it was.
func guard(l []api.Point) (given []api.Point, changed func() bool) {
	filler := at(least, 77)
	all := append(slices.Clone(l), filler, filler, filler, filler, filler, filler)
	was := slices.Clone(all)
	return all[:len(l)], func() bool { return !slices.Equal(all, was) }
}

// spoil writes into all of an answer, its spare room too.
func spoil(l []api.Point) {
	whole := l[:cap(l)]
	for i := range whole {
		whole[i] = at(-123456789, 987654321)
	}
}

// edges: numbers round which a call may change its mind, both signs, and those beside them; and the ends of int64.
func edges() []int64 {
	out := []int64{0, least, least + 1, most, most - 1}
	for _, n := range []int64{1, 2, one, near, far, 2 * far, 1 << 32, great, 2 * great, 1 << 53, 1 << 62} {
		for _, e := range []int64{n - 1, n, n + 1} {
			out = append(out, e, -e)
		}
	}
	return out
}

// picker: rows of numbers of any size, edges and small ones among them.
func picker(seed int64) func() int64 {
	r, list := rand.New(rand.NewSource(seed)), edges()
	return func() int64 {
		switch r.Intn(4) {
		case 0:
			return list[r.Intn(len(list))]
		case 1:
			return r.Int63n(2*near+1) - near
		case 2:
			return r.Int63n(20) - 10
		}
		return int64(r.Uint64()) >> r.Intn(63)
	}
}

// zigzag goes to and fro n times, from corner to corner of all places (or from side to side).
func zigzag(n int, y int64, ends bool) api.Poly {
	p := api.Poly{Closed: ends}
	for i := range n + 1 {
		s := int64(i%2*2 - 1)
		p.P = append(p.P, at(s*far, s*y))
	}
	return p
}

// checkLength looks whether p stays as it was, too.
func checkLength(t *testing.T, p api.Poly, sides int, length int64) {
	t.Helper()
	list, changed := guard(p.P)
	given := api.Poly{Closed: p.Closed, P: list}
	if got := Sides(given); got != sides {
		t.Errorf("P9.1: Sides(%v): %d, want %d", p, got, sides)
	}
	if got := Length(given); got != length {
		t.Errorf("P9.1: Length(%v): %d, want %d", p, got, length)
	}
	if changed() {
		t.Errorf("R2: Sides or Length changed %v to %v", p, list)
	}
}

func TestNoSides(t *testing.T) {
	behind := points(3, 4, 30, 40, 300, 400)
	for _, ends := range []bool{false, true} {
		for _, l := range [][]api.Point{nil, {}, behind[:0], behind[:1], points(0, 0), points(5, -7), points(most, least)} {
			checkLength(t, api.Poly{Closed: ends, P: l}, 0, 0)
		}
	}
	if !slices.Equal(behind, points(3, 4, 30, 40, 300, 400)) {
		t.Errorf("R2: the room behind a list was changed: %v", behind)
	}
}

func TestSidesAndLengthByHand(t *testing.T) {
	for _, c := range []struct {
		p            []api.Point
		open, closed int64
	}{
		// Two points: there, and there and back.
		{points(0, 0, 3, 4), 5, 10},
		{points(3, 4, 0, 0), 5, 10},
		{points(10, -10, 5, 2), 13, 26},
		{points(-7, 0, 5, 0), 12, 24},
		{points(0, -7, 0, 5), 12, 24},
		{points(6, 6, 6, 6), 0, 0},
		{points(0, 0, 0, 1), 1, 2},
		// Each side is rounded down for itself.
		{points(0, 0, 1, 1), 1, 2},
		{points(0, 0, 1, 1, 2, 0), 2, 4},
		{points(0, 0, 2, 2, 4, 4, 6, 6), 6, 14},
		{points(0, 0, -1, -2, -3, -3), 4, 8},
		// Three and more.
		{points(0, 0, 300, 0, 300, 400), 700, 1200},
		{points(0, 0, 64, 0, 64, 64, 0, 64), 192, 256},
		{points(0, 0, 8, 0, 8, 0, 8, 0, 0, 0), 16, 16},
		{points(0, 0, 5, 0, 2, 0), 8, 10},
		// Places that are one behind the other: sides too, of length 0.
		{points(1, 1, 1, 1, 4, 5), 5, 10},
		{points(1, 1, 4, 5, 4, 5), 5, 10},
		{points(1, 1, 4, 5, 1, 1), 10, 10},
		{points(2, 3, 2, 3, 2, 3, 2, 3), 0, 0},
		// At and past bounds.
		{points(-far, 0, far, 0), 2 * far, 4 * far},
		{points(0, far, 0, -far), 2 * far, 4 * far},
		{points(-far, -far, far, far), 1518500249, 3037000498},
		{points(-far-1, 0, far+1, 0), 2 * far, 4 * far},
		{points(0, -far-1, 0, far+1), 2 * far, 4 * far},
		{points(least, most, most, least), 1518500249, 3037000498},
		{points(least, 0, most, 0), 2 * far, 4 * far},
		{points(far, 5, far+1, 5), 0, 0},
		{points(far-1, 5, most, 5), 1, 2},
		{points(5, -far, 5, least), 0, 0},
		{points(5, 1-far, 5, least), 1, 2},
		{points(great, 3, most, 7), 4, 8},
	} {
		n := len(c.p)
		checkLength(t, api.Poly{P: c.p}, n-1, c.open)
		checkLength(t, api.Poly{Closed: true, P: c.p}, n, c.closed)
	}
}

func TestLengthIsHeld(t *testing.T) {
	for _, c := range []struct {
		p    api.Poly
		want int64
	}{
		// Each side is 2^30 long: 1024 of them are Great.
		{zigzag(1023, 0, false), great - 1<<30}, {zigzag(1024, 0, false), great}, {zigzag(1025, 0, false), great},
		{zigzag(1021, 0, true), great - 2<<30}, {zigzag(1023, 0, true), great}, {zigzag(1025, 0, true), great},
		// The last sides are longer than what is left to Great.
		{zigzag(724, far, false), 724 * 1518500249}, {zigzag(725, far, false), great}, {zigzag(5000, far, false), great},
		{zigzag(723, far, true), 724 * 1518500249}, {zigzag(725, far, true), great},
	} {
		if got := Length(c.p); got != c.want {
			t.Errorf("P9.1: Length of %d points: %d, want %d", len(c.p.P), got, c.want)
		}
	}
	// Behind so long a line short sides change nothing.
	p := zigzag(1024, 0, false)
	p.P = append(p.P, at(-far, 7), at(-far, 0), at(-far, -7))
	if got := Length(p); got != great {
		t.Errorf("P9.1: Length past Great: %d", got)
	}
}

func TestSidesOfMany(t *testing.T) {
	for _, n := range []int{3, 4, 97, 1000, 1<<20 + 1} {
		p := api.Poly{P: make([]api.Point, n)}
		for i := range p.P {
			p.P[i].X = int64(i)
		}
		if s, l := Sides(p), Length(p); s != n-1 || l != int64(n-1) {
			t.Errorf("P9.1: %d points, open: %d sides, %d long", n, s, l)
		}
		p.Closed = true
		if s, l := Sides(p), Length(p); s != n || l != 2*int64(n-1) {
			t.Errorf("P9.1: %d points, closed: %d sides, %d long", n, s, l)
		}
	}
}

func TestLength(t *testing.T) {
	pick, r := picker(91), rand.New(rand.NewSource(91))
	for range 20000 {
		p := api.Poly{Closed: r.Intn(2) == 0}
		for range r.Intn(12) {
			if n := len(p.P); n > 0 && r.Intn(4) == 0 {
				p.P = append(p.P, p.P[n-1])
				continue
			}
			p.P = append(p.P, at(pick(), pick()))
		}
		checkLength(t, p, len(wantSides(p)), wantLength(p))
	}
}

func TestOnByHand(t *testing.T) {
	a, b := at(0, 0), at(300, -400)
	for _, c := range []struct {
		d    int64
		want api.Point
	}{
		{least, a}, {-great, a}, {-500, a}, {-1, a}, {0, a},
		// X is rounded down, and Y, which goes down, too.
		{1, at(0, -1)}, {2, at(1, -2)}, {125, at(75, -100)}, {250, at(150, -200)}, {251, at(150, -201)}, {498, at(298, -399)}, {499, at(299, -400)},
		{500, b}, {501, b}, {great, b}, {most, b},
	} {
		if got := On(a, b, c.d, 500); got != c.want {
			t.Errorf("P9.1: On, %d of 500: %v, want %v", c.d, got, c.want)
		}
	}
	corner, other, small, across := at(-far, far), at(far, -far), at(10, -10), at(-10, 11)
	for _, c := range []struct {
		d, l        int64
		wide, close api.Point
	}{
		{1, 3, at(-178962432, 178962432), at(3, -4)},
		{2, 3, at(178946048, -178946048), at(-4, 3)},
		{1, 7, at(-383483904, 383483904), at(7, -8)},
		{6, 7, at(383467520, -383467520), at(-8, 7)},
		{1, one, at(-536854528, 536854528), at(9, -10)},
		// So little of l that no share is left.
		{1, one + 1, corner, small},
		{1, most, corner, small},
		// l of any size: past Great the share is of Great.
		{1 << 39, great, at(0, 0), at(0, 0)},
		{1 << 39, 1 << 62, at(0, 0), at(0, 0)},
		{1 << 39, most, at(0, 0), at(0, 0)},
		{great - 1, great, at(536854528, -536854528), at(-10, 10)},
		{great - 1, most, at(536854528, -536854528), at(-10, 10)},
		{great, great, other, across},
		{great, great + 1, other, across},
		{great, most, other, across},
		{great + 1, great + 2, other, across},
		{most, most, other, across},
		{least, most, corner, small},
	} {
		if got := On(corner, other, c.d, c.l); got != c.wide {
			t.Errorf("P9.1: On, %d of %d, wide: %v, want %v", c.d, c.l, got, c.wide)
		}
		if got := On(small, across, c.d, c.l); got != c.close {
			t.Errorf("P9.1: On, %d of %d: %v, want %v", c.d, c.l, got, c.close)
		}
	}
}

// d at most 0 is asked first, whatever l is.
func TestOnOfNoLength(t *testing.T) {
	a, b := at(7, -8), at(-90, 100)
	for _, l := range []int64{0, -1, -5, -500, -great, -great - 1, least + 1, least} {
		for _, d := range []int64{0, -1, -4, -5, -6, -great, least} {
			if got := On(a, b, d, l); got != a {
				t.Errorf("P9.1: On, %d of %d: %v, want %v", d, l, got, a)
			}
		}
		for _, d := range []int64{1, 2, 500, great, great + 1, most} {
			if got := On(a, b, d, l); got != b {
				t.Errorf("P9.1: On, %d of %d: %v, want %v", d, l, got, b)
			}
		}
	}
}

// X and Y are placed each for itself, at both ends and between.
func TestOnPlaces(t *testing.T) {
	for _, past := range []int64{far, far + 1, 2 * far, great, great + 1, most} {
		below := -past
		if past == most {
			below = least
		}
		for _, c := range []struct {
			d    int64
			x, y api.Point
		}{
			{-1, at(far, 1), at(2, -far)}, {0, at(far, 1), at(2, -far)},
			{1, at(402653184, 2), at(3, -402653184)}, {4, at(0, 5), at(6, 0)}, {7, at(-402653184, 8), at(9, 402653184)},
			{8, at(-far, 9), at(10, far)}, {9, at(-far, 9), at(10, far)},
		} {
			if got := On(at(past, 1), at(below, 9), c.d, 8); got != c.x {
				t.Errorf("P9.1: On, X past bounds (%d), %d of 8: %v, want %v", past, c.d, got, c.x)
			}
			if got := On(at(2, below), at(10, past), c.d, 8); got != c.y {
				t.Errorf("P9.1: On, Y past bounds (%d), %d of 8: %v, want %v", past, c.d, got, c.y)
			}
		}
	}
	if got := On(at(most, 0), at(0, least), 1, 2); got != at(far/2, -far/2) {
		t.Errorf("P9.1: On, one end past bounds: %v", got)
	}
}

func TestOn(t *testing.T) {
	pick, list := picker(92), edges()
	for _, d := range list {
		for _, l := range list {
			a, b := at(pick(), pick()), at(pick(), pick())
			if got, want := On(a, b, d, l), wantOn(a, b, num(d), num(l)); got != want {
				t.Fatalf("P9.1: On(%v, %v, %d, %d): %v, want %v", a, b, d, l, got, want)
			}
		}
	}
	r := rand.New(rand.NewSource(93))
	for range 50000 {
		a, b, d, l := at(pick(), pick()), at(pick(), pick()), pick(), pick()
		if d > 0 && r.Intn(2) == 0 {
			l = d + r.Int63n(d)
		}
		if got, want := On(a, b, d, l), wantOn(a, b, num(d), num(l)); got != want {
			t.Fatalf("P9.1: On(%v, %v, %d, %d): %v, want %v", a, b, d, l, got, want)
		}
	}
}
