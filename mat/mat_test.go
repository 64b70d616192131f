package mat

import (
	"math"
	"math/big"
	"math/rand"
	"testing"

	"mutoscope/api"
)

const (
	one   = int64(api.One)
	far   = int64(api.Far)
	great = int64(api.Great)
	least = int64(math.MinInt64)
	most  = int64(math.MaxInt64)
)

// The reckoning below is the chapters', in numbers without a size, and shares nothing with the packages.

func wide(a int64) *big.Int { return big.NewInt(a) }

func clamped(a *big.Int, bound int64) int64 {
	if a.Cmp(wide(-bound)) < 0 {
		return -bound
	}
	if a.Cmp(wide(bound)) > 0 {
		return bound
	}
	return a.Int64()
}

func held(a int64) *big.Int { return wide(clamped(wide(a), great)) }

func sum(a, b int64) int64 { return clamped(new(big.Int).Add(held(a), held(b)), great) }

// product: big's Div rounds down where what it divides by is above 0.
func product(a, b int64) int64 {
	n := new(big.Int).Mul(held(a), held(b))
	return clamped(n.Div(n, wide(one)), great)
}

func wantSin(a int64) int64 {
	half := wide(180 * one)
	x := new(big.Int).Mod(wide(a), wide(360*one))
	other := x.Cmp(half) >= 0
	if other {
		x.Sub(x, half)
	}
	p := new(big.Int).Sub(half, x)
	p.Mul(p, x).Div(p, wide(one))
	n := new(big.Int).Mul(p, wide(4*one))
	n.Div(n, new(big.Int).Sub(wide(40500*one), p))
	if other {
		n.Neg(n)
	}
	return n.Int64()
}

func wantCos(a int64) int64 {
	x := new(big.Int).Mod(wide(a), wide(360*one))
	return wantSin(x.Int64() + 90*one)
}

func wantApply(m api.Mat, p api.Point) api.Point {
	x := sum(sum(product(m.A, p.X), product(m.C, p.Y)), m.E)
	y := sum(sum(product(m.B, p.X), product(m.D, p.Y)), m.F)
	return api.Point{X: clamped(wide(x), far), Y: clamped(wide(y), far)}
}

func wantAfter(m, n api.Mat) api.Mat {
	var out api.Mat
	out.A = sum(product(m.A, n.A), product(m.C, n.B))
	out.B = sum(product(m.B, n.A), product(m.D, n.B))
	out.C = sum(product(m.A, n.C), product(m.C, n.D))
	out.D = sum(product(m.B, n.C), product(m.D, n.D))
	out.E = sum(sum(product(m.A, n.E), product(m.C, n.F)), m.E)
	out.F = sum(sum(product(m.B, n.E), product(m.D, n.F)), m.F)
	return out
}

func wantMade(l [7]int64) api.Mat {
	x, y, ax, ay, sx, sy := l[0], l[1], l[2], l[3], l[4], l[5]
	c, s := wantCos(l[6]), wantSin(l[6])
	m := api.Mat{A: product(c, sx), B: product(s, sx), C: product(-s, sy), D: product(c, sy)}
	m.E = sum(x, -sum(product(m.A, ax), product(m.C, ay)))
	m.F = sum(y, -sum(product(m.B, ax), product(m.D, ay)))
	return m
}

func wantWidth(m api.Mat) int64 {
	a, b := wide(clamped(wide(m.A), 2*far)), wide(clamped(wide(m.B), 2*far))
	n := new(big.Int).Add(a.Mul(a, a), b.Mul(b, b))
	return clamped(n.Sqrt(n), great)
}

func made(l [7]int64) api.Mat { return Made(l[0], l[1], l[2], l[3], l[4], l[5], l[6]) }

func mapOf(l [6]int64) api.Mat {
	return api.Mat{A: l[0], B: l[1], C: l[2], D: l[3], E: l[4], F: l[5]}
}

func checkMaps(t *testing.T, m, n api.Mat, p api.Point) {
	t.Helper()
	if got, want := Apply(m, p), wantApply(m, p); got != want {
		t.Fatalf("P3.1: Apply(%v, %v): %v, want %v", m, p, got, want)
	}
	if got, want := After(m, n), wantAfter(m, n); got != want {
		t.Fatalf("P3.1: After(%v, %v): %v, want %v", m, n, got, want)
	}
	if got, want := Width(m), wantWidth(m); got != want {
		t.Fatalf("P3.2: Width(%v): %d, want %d", m, got, want)
	}
}

func checkMade(t *testing.T, l [7]int64) {
	t.Helper()
	if got, want := made(l), wantMade(l); got != want {
		t.Fatalf("P3.2: Made(%v): %v, want %v", l, got, want)
	}
}

// edges: numbers round which q changes its mind, and what lies beside them; and the ends of int64.
func edges() []int64 {
	out := []int64{0, least, least + 1, most, most - 1}
	for _, n := range []int64{1, one / 2, one, 3 * one, api.Near, far, 2 * far, 4 * far, great / one, great, 2 * great, 1 << 56} {
		for _, e := range []int64{n - 1, n, n + 1} {
			out = append(out, e, -e)
		}
	}
	return out
}

// picker: rows of numbers of any size, edges among them.
func picker(seed int64) func() int64 {
	r, list := rand.New(rand.NewSource(seed)), edges()
	return func() int64 {
		switch r.Intn(3) {
		case 0:
			return list[r.Intn(len(list))]
		case 1:
			return r.Int63n(16*one) - 8*one
		}
		return int64(r.Uint64()) >> r.Intn(63)
	}
}

// Each edge in each field and argument by itself, beside ordinary numbers and beside noughts.
func TestEdgesInEachField(t *testing.T) {
	ordinary := [6]int64{3 * one / 2, -one / 3, 5 * one, -7, 11 * one, -13}
	for _, base := range [][6]int64{{}, ordinary, {one, 0, 0, one, 0, 0}} {
		for _, e := range edges() {
			p := api.Point{X: 5*one + 1, Y: -3 * one}
			for i := range base {
				l := base
				l[i] = e
				checkMaps(t, mapOf(l), mapOf(ordinary), p)
				checkMaps(t, mapOf(ordinary), mapOf(l), p)
			}
			checkMaps(t, mapOf(base), mapOf(base), api.Point{X: e, Y: p.Y})
			checkMaps(t, mapOf(base), mapOf(base), api.Point{X: p.X, Y: e})
		}
	}
}

func TestEdgesInEachArgument(t *testing.T) {
	for _, base := range [][7]int64{{}, {10, 20, 3 * one, 4 * one, 2 * one, one / 2, 77 * one}, {0, 0, -one, one, -one, one, 200 * one}} {
		for _, e := range edges() {
			for i := range base {
				l := base
				l[i] = e
				checkMade(t, l)
			}
		}
	}
}

func TestAnySize(t *testing.T) {
	pick := picker(3)
	for range 30000 {
		var a, b [6]int64
		var l [7]int64
		for i := range a {
			a[i], b[i] = pick(), pick()
		}
		for i := range l {
			l[i] = pick()
		}
		checkMaps(t, mapOf(a), mapOf(b), api.Point{X: pick(), Y: pick()})
		checkMade(t, l)
	}
}

func TestSame(t *testing.T) {
	if got := Same(); got != (api.Mat{A: 65536, D: 65536}) {
		t.Errorf("P3.1: Same: %v", got)
	}
	for _, x := range []int64{0, 1, -1, one, -one - 1, api.Near, -api.Near, far, -far} {
		p := api.Point{X: x, Y: -x}
		if got := Apply(Same(), p); got != p {
			t.Errorf("P3.1: Apply(Same(), %v): %v", p, got)
		}
	}
}

func TestApplyByHand(t *testing.T) {
	m := api.Mat{A: 2 * one, B: -one, C: one / 2, D: 4 * one, E: 100, F: -200}
	move := api.Mat{A: one, D: one, E: -7, F: 9}
	for i, c := range []struct {
		m       api.Mat
		p, want api.Point
	}{
		{m, api.Point{}, api.Point{X: 100, Y: -200}},
		{m, api.Point{X: 10}, api.Point{X: 120, Y: -210}},
		{m, api.Point{Y: 10}, api.Point{X: 105, Y: -160}},
		{m, api.Point{X: 3, Y: 5}, api.Point{X: 108, Y: -183}},
		{m, api.Point{X: 3, Y: -5}, api.Point{X: 103, Y: -223}},
		{move, api.Point{X: 7, Y: -9}, api.Point{}},
		{move, api.Point{X: -far, Y: far}, api.Point{X: -far, Y: far}},
		{move, api.Point{X: far, Y: -far}, api.Point{X: far - 7, Y: 9 - far}},
		{api.Mat{}, api.Point{X: most, Y: least}, api.Point{}},
		{Same(), api.Point{X: far + 1, Y: -far - 1}, api.Point{X: far, Y: -far}},
		{Same(), api.Point{X: least, Y: most}, api.Point{X: -far, Y: far}},
		// Each product is rounded down for itself: two halves are no whole.
		{api.Mat{A: one / 2, C: one / 2, B: -one / 2, D: -one / 2}, api.Point{X: 1, Y: 1}, api.Point{Y: -2}},
		// The products are summed ahead of E and F, and each sum is held.
		{api.Mat{A: great, C: great, E: -great, B: -great, D: -great, F: great}, api.Point{X: one, Y: one}, api.Point{}},
		{api.Mat{A: great, C: -great, E: 5, B: -great, D: great, F: -5}, api.Point{X: far, Y: far}, api.Point{X: 5, Y: -5}},
	} {
		if got := Apply(c.m, c.p); got != c.want {
			t.Errorf("P3.1: Apply, case %d: %v, want %v", i, got, c.want)
		}
	}
}

func TestAfterByHand(t *testing.T) {
	double := api.Mat{A: 2 * one, D: 2 * one}
	move := api.Mat{A: one, D: one, E: 30, F: -40}
	quarter := api.Mat{B: one, C: -one}
	small := api.Mat{A: 1, B: -2, C: 3, D: -4, E: 5, F: -6}
	for i, c := range []struct{ m, n, want api.Mat }{
		{double, move, api.Mat{A: 2 * one, D: 2 * one, E: 60, F: -80}},
		{move, double, api.Mat{A: 2 * one, D: 2 * one, E: 30, F: -40}},
		{quarter, move, api.Mat{B: one, C: -one, E: 40, F: 30}},
		{move, quarter, api.Mat{B: one, C: -one, E: 30, F: -40}},
		{quarter, quarter, api.Mat{A: -one, D: -one}},
		{move, move, api.Mat{A: one, D: one, E: 60, F: -80}},
		{Same(), small, small},
		{small, Same(), small},
		{Same(), api.Mat{A: most, B: least, C: most, D: least, E: most, F: least}, api.Mat{A: great, B: -great, C: great, D: -great, E: great, F: -great}},
		{api.Mat{A: most, B: least, C: most, D: least, E: most, F: least}, Same(), api.Mat{A: great, B: -great, C: great, D: -great, E: great, F: -great}},
		// A far place stays far: After holds by Great, not by Far.
		{move, api.Mat{E: great / 2, F: -great / 2}, api.Mat{E: great/2 + 30, F: -great/2 - 40}},
		{api.Mat{A: great, C: great, E: -great}, api.Mat{E: one, F: one}, api.Mat{}},
	} {
		if got := After(c.m, c.n); got != c.want {
			t.Errorf("P3.1: After, case %d: %v, want %v", i, got, c.want)
		}
	}
}

// Maps of whole numbers lose nothing, so that After must be one map after the other.
func TestAfterIsOneAfterTheOther(t *testing.T) {
	r := rand.New(rand.NewSource(4))
	whole := func() int64 { return (r.Int63n(21) - 10) * one }
	for range 2000 {
		m := api.Mat{A: whole(), B: whole(), C: whole(), D: whole(), E: whole(), F: whole()}
		n := api.Mat{A: whole(), B: whole(), C: whole(), D: whole(), E: whole(), F: whole()}
		p := api.Point{X: whole(), Y: whole()}
		if got, want := Apply(After(m, n), p), Apply(m, Apply(n, p)); got != want {
			t.Fatalf("P3.1: Apply(After(%v, %v), %v): %v, want %v", m, n, p, got, want)
		}
	}
}

// At each eighth of a round; the odd ones' sine is 46260.
func TestMadeAtEighths(t *testing.T) {
	const k = 46260
	for i, want := range []api.Mat{
		{A: 2 * one, D: -3 * one},
		{A: 2 * k, B: 2 * k, C: 3 * k, D: -3 * k},
		{B: 2 * one, C: 3 * one},
		{A: -2 * k, B: 2 * k, C: 3 * k, D: 3 * k},
		{A: -2 * one, D: 3 * one},
		{A: -2 * k, B: -2 * k, C: -3 * k, D: 3 * k},
		{B: -2 * one, C: -3 * one},
		{A: 2 * k, B: -2 * k, C: -3 * k, D: -3 * k},
	} {
		for turns := int64(-2); turns <= 2; turns++ {
			a := int64(i)*45*one + turns*360*one
			if got := Made(0, 0, 0, 0, 2*one, -3*one, a); got != want {
				t.Errorf("P3.2: Made, turned by %d: %v, want %v", a, got, want)
			}
		}
	}
}

func TestMadeByHand(t *testing.T) {
	for i, c := range []struct {
		l    [7]int64
		want api.Mat
	}{
		{[7]int64{0, 0, 0, 0, one, one, 0}, Same()},
		{[7]int64{}, api.Mat{}},
		{[7]int64{12, -34, 0, 0, one, one, 0}, api.Mat{A: one, D: one, E: 12, F: -34}},
		{[7]int64{12, -34, 5, 6, one, one, 0}, api.Mat{A: one, D: one, E: 7, F: -40}},
		{[7]int64{0, 0, 5, 6, -one, 2 * one, 0}, api.Mat{A: -one, D: 2 * one, E: 5, F: -12}},
		{[7]int64{0, 0, 5, 6, one, one, 90 * one}, api.Mat{B: one, C: -one, E: 6, F: -5}},
		{[7]int64{0, 0, 5, 6, one, one, 270 * one}, api.Mat{B: -one, C: one, E: -6, F: 5}},
		// -s is a half below 0: C is rounded down with the minus inside.
		{[7]int64{0, 0, 0, 0, 1, 1, 30 * one}, api.Mat{C: -1}},
		{[7]int64{0, 0, 0, 0, 1, 1, -30 * one}, api.Mat{B: -1}},
		// E and F: what is taken away was rounded down, so that what is left is not.
		{[7]int64{0, 0, 1, 1, one / 2, one / 2, 0}, api.Mat{A: one / 2, D: one / 2}},
		{[7]int64{0, 0, -1, -1, one / 2, one / 2, 0}, api.Mat{A: one / 2, D: one / 2, E: 1, F: 1}},
		// A, B, C, D are those that are held, not what they were made of.
		{[7]int64{0, 0, one, one, most, least, 0}, api.Mat{A: great, D: -great, E: -great, F: great}},
		{[7]int64{most, least, 0, 0, 0, 0, 0}, api.Mat{E: great, F: -great}},
		{[7]int64{0, 0, most, least, one, one, 0}, api.Mat{A: one, D: one, E: -great, F: great}},
		{[7]int64{0, 0, most, least, one, one, 90 * one}, api.Mat{B: one, C: -one, E: -great, F: -great}},
		{[7]int64{0, 0, 0, 0, one, one, most}, api.Mat{A: -24611, B: -60713, C: 60713, D: -24611}},
		{[7]int64{0, 0, 0, 0, one, one, least}, api.Mat{A: -24611, B: 60713, C: -60713, D: -24611}},
	} {
		if got := made(c.l); got != c.want {
			t.Errorf("P3.2: Made, case %d: %v, want %v", i, got, c.want)
		}
	}
}

// The place a map is made round lies on x, y, whatever the turn and the scales.
func TestMadeRoundAPlace(t *testing.T) {
	r := rand.New(rand.NewSource(5))
	near := func() int64 { return r.Int63n(2*api.Near) - api.Near }
	for degrees := int64(-400); degrees < 800; degrees++ {
		x, y, ax, ay := near(), near(), near(), near()
		m := Made(x, y, ax, ay, r.Int63n(4*one)-2*one, r.Int63n(4*one)-2*one, degrees*one)
		if got := Apply(m, api.Point{X: ax, Y: ay}); got != (api.Point{X: x, Y: y}) {
			t.Fatalf("P3.2: %v lays %d, %d on %v, want %d, %d", m, ax, ay, got, x, y)
		}
	}
}

func TestWidthByHand(t *testing.T) {
	for i, c := range []struct {
		m    api.Mat
		want int64
	}{
		{Same(), one},
		{api.Mat{}, 0},
		{api.Mat{A: 1, B: 1}, 1},
		{api.Mat{A: 2, B: 2}, 2},
		{api.Mat{A: -5 * one, B: 12 * one, C: most, D: least, E: most, F: least}, 13 * one},
		{api.Mat{C: 3 * one, D: 4 * one, E: 5, F: 6}, 0},
		{Made(7, 8, 9, 10, 3*one, -5*one, 90*one), 3 * one},
		{Made(7, 8, 9, 10, -3*one, 5*one, 180*one), 3 * one},
		{api.Mat{A: 2 * far}, 2 * far},
		{api.Mat{B: -2*far - 1}, 2 * far},
		{api.Mat{A: least, B: most}, 1518500249},
	} {
		if got := Width(c.m); got != c.want {
			t.Errorf("P3.2: Width, case %d: %d, want %d", i, got, c.want)
		}
	}
}

// R4: what is asked between two calls leaves no trace in the second one.
func TestSameAgain(t *testing.T) {
	type answer struct {
		m, n  api.Mat
		p     api.Point
		width int64
	}
	ask := func(pick func() int64) answer {
		m := Made(pick(), pick(), pick(), pick(), pick(), pick(), pick())
		n := After(m, api.Mat{A: pick(), B: pick(), C: pick(), D: pick(), E: pick(), F: pick()})
		return answer{m, n, Apply(n, api.Point{X: pick(), Y: pick()}), Width(n)}
	}
	var first []answer
	for seed := range int64(200) {
		first = append(first, ask(picker(seed)))
	}
	for seed := int64(199); seed >= 0; seed-- {
		if got := ask(picker(seed)); got != first[seed] {
			t.Fatalf("R4: seed %d: %v, first %v", seed, got, first[seed])
		}
	}
}
