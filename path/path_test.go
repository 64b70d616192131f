package path

import (
	"math"
	"math/big"
	"math/rand"
	"slices"
	"testing"

	"mutoscope/api"
	"mutoscope/mat"
)

const (
	one   = int64(api.One)
	half  = one / 2
	near  = int64(api.Near)
	far   = int64(api.Far)
	great = int64(api.Great)
	least = int64(math.MinInt64)
	most  = int64(math.MaxInt64)
)

func at(x, y int64) api.Point { return api.Point{X: x, Y: y} }

// of is a path of the numbers in pairs.
func of(closed bool, numbers ...int64) api.Path {
	p := api.Path{Closed: closed}
	for i := 0; i+1 < len(numbers); i += 2 {
		p.P = append(p.P, at(numbers[i], numbers[i+1]))
	}
	return p
}

// row is a path of n points, no two numbers of it alike.
func row(n int, closed bool) api.Path {
	p := api.Path{Closed: closed, P: make([]api.Point, n)}
	for i := range p.P {
		p.P[i] = at(int64(10*i+1), int64(-10*i-2))
	}
	return p
}

func clonePath(p api.Path) api.Path { return api.Path{Closed: p.Closed, P: slices.Clone(p.P)} }

// like holds two paths against each other without the package's own Same.
func like(a, b api.Path) bool {
	if a.Closed != b.Closed || len(a.P) != len(b.P) {
		return false
	}
	for i := range a.P {
		if a.P[i].X != b.P[i].X || a.P[i].Y != b.P[i].Y {
			return false
		}
	}
	return true
}

// The reckoning below is the chapters', in numbers without a size.

func wide(a int64) *big.Int { return big.NewInt(a) }

func held(a *big.Int) *big.Int {
	if a.CmpAbs(wide(great)) <= 0 {
		return a
	}
	return wide(great * int64(a.Sign()))
}

// wantMid: big's Div rounds down where what it divides by is above 0.
func wantMid(a, b, p int64) int64 {
	from := held(wide(a))
	way := held(new(big.Int).Sub(held(wide(b)), from))
	way = new(big.Int).Mul(way, held(wide(p)))
	way = held(way.Div(way, wide(one)))
	return held(new(big.Int).Add(from, way)).Int64()
}

func wantMorph(a, b api.Path, t int64) api.Path {
	if len(a.P) != len(b.P) || a.Closed != b.Closed {
		return clonePath(a)
	}
	out := api.Path{Closed: a.Closed}
	for i := range a.P {
		out.P = append(out.P, at(wantMid(a.P[i].X, b.P[i].X, t), wantMid(a.P[i].Y, b.P[i].Y, t)))
	}
	return out
}

func wantMap(m api.Mat, p api.Path) api.Path {
	out := api.Path{Closed: p.Closed}
	for _, x := range p.P {
		out.P = append(out.P, mat.Apply(m, x))
	}
	return out
}

func wantRight(p api.Path) bool {
	n := len(p.P)
	if n == 0 {
		return !p.Closed
	}
	right := n == 4 || n > 4 && n < 98 && (n-1)/3*3 == n-1
	for _, x := range p.P {
		right = right && wide(x.X).CmpAbs(wide(near)) <= 0 && wide(x.Y).CmpAbs(wide(near)) <= 0
	}
	return right
}

// guard hands p out with room behind its list; changed says whether any of it, the room too, is not as it was.
func guard(p api.Path) (given api.Path, changed func() bool) {
	filler := at(least, 77)
	all := append(slices.Clone(p.P), filler, filler, filler)
	was := slices.Clone(all)
	given = api.Path{Closed: p.Closed, P: all[:len(p.P)]}
	return given, func() bool { return !slices.Equal(all, was) }
}

// spoil writes into all of an answer, its spare room too.
func spoil(p api.Path) {
	whole := p.P[:cap(p.P)]
	for i := range whole {
		whole[i] = at(-123456789, 987654321)
	}
}

// checkTwo asks every call of two paths, and looks whether they stay as they were, also when the answers are written into (R2, R5).
func checkTwo(t *testing.T, a, b api.Path, share int64, m api.Mat) {
	t.Helper()
	x, xChanged := guard(a)
	y, yChanged := guard(b)
	morph, mapped := Morph(x, y, share), Map(m, x)
	if want := wantMorph(a, b, share); !like(morph, want) {
		t.Fatalf("P7.1: Morph(%v, %v, %d): %v, want %v", a, b, share, morph, want)
	}
	if want := wantMap(m, a); !like(mapped, want) {
		t.Fatalf("P7.1: Map(%v, %v): %v, want %v", m, a, mapped, want)
	}
	if got, want := Right(x), wantRight(a); got != want {
		t.Fatalf("P7.1: Right(%v): %v", a, got)
	}
	if got := Empty(x); got != (len(a.P) == 0) {
		t.Fatalf("P7.1: Empty(%v): %v", a, got)
	}
	if got := Fits(x, y); got != (len(a.P) == len(b.P) && a.Closed == b.Closed) {
		t.Fatalf("P7.1: Fits(%v, %v): %v", a, b, got)
	}
	if got := Same(x, y); got != like(a, b) {
		t.Fatalf("P7.1: Same(%v, %v): %v", a, b, got)
	}
	spoil(morph)
	spoil(mapped)
	if xChanged() || yChanged() {
		t.Fatalf("R2: %v, %v became %v, %v", a, b, x, y)
	}
}

// edges: numbers round which a call may change its mind, both signs, and those beside them; and the ends of int64.
func edges() []int64 {
	out := []int64{0, least, least + 1, most, most - 1}
	for _, n := range []int64{1, half, one, near, far, great / 2, great, 2 * great} {
		for _, e := range []int64{n - 1, n, n + 1} {
			out = append(out, e, -e)
		}
	}
	return out
}

// picker: rows of numbers of any size, edges, shares and small ones among them.
func picker(seed int64) func() int64 {
	r, list := rand.New(rand.NewSource(seed)), edges()
	return func() int64 {
		switch r.Intn(4) {
		case 0:
			return list[r.Intn(len(list))]
		case 1:
			return r.Int63n(one)
		case 2:
			return r.Int63n(20) - 10
		}
		return int64(r.Uint64()) >> r.Intn(63)
	}
}

// anyPath: up to most points, of any numbers.
func anyPath(r *rand.Rand, pick func() int64, most int) api.Path {
	p := api.Path{Closed: r.Intn(2) == 0, P: make([]api.Point, r.Intn(most+1))}
	for i := range p.P {
		p.P[i] = at(pick(), pick())
	}
	return p
}

func anyMat(pick func() int64) api.Mat {
	return api.Mat{A: pick(), B: pick(), C: pick(), D: pick(), E: pick(), F: pick()}
}

func TestRightLength(t *testing.T) {
	right := []int{4, 7, 10, 13, 16, 19, 22, 25, 28, 31, 34, 37, 40, 43, 46, 49, 52, 55, 58, 61, 64, 67, 70, 73, 76, 79, 82, 85, 88, 91, 94, 97}
	for n := 1; n <= 120; n++ {
		for _, closed := range []bool{false, true} {
			if got := Right(row(n, closed)); got != slices.Contains(right, n) {
				t.Errorf("P7.1: Right of %d points, closed %v: %v", n, closed, got)
			}
			if Empty(row(n, closed)) {
				t.Errorf("P7.1: Empty of %d points, closed %v", n, closed)
			}
		}
	}
	for _, n := range []int{1000, 3001, 1<<20 + 1, 1 << 20} {
		if Right(row(n, false)) || Right(row(n, true)) || Empty(row(n, false)) {
			t.Errorf("P7.1: Right, Empty of %d points", n)
		}
	}
}

func TestRightOfNoPoints(t *testing.T) {
	for i, l := range [][]api.Point{nil, {}, row(4, false).P[:0]} {
		for _, closed := range []bool{false, true} {
			p := api.Path{Closed: closed, P: l}
			if !Empty(p) || Right(p) == closed {
				t.Errorf("P7.1: Empty, Right of no points, case %d, closed %v: %v, %v", i, closed, Empty(p), Right(p))
			}
		}
	}
}

func TestRightNumbers(t *testing.T) {
	for _, c := range []struct {
		n    int64
		want bool
	}{
		{0, true}, {near - 1, true}, {near, true}, {1 - near, true}, {-near, true},
		{near + 1, false}, {-near - 1, false}, {2 * near, false}, {far, false}, {-far, false}, {great, false}, {-great, false},
		{1 << 32, false}, {most, false}, {least, false}, {least + 1, false},
	} {
		for _, n := range []int{4, 7, 97} {
			for i := range n {
				p, s := row(n, i%2 == 0), row(n, i%2 == 0)
				p.P[i].X, s.P[i].Y = c.n, c.n
				if Right(p) != c.want || Right(s) != c.want {
					t.Errorf("P7.1: Right, %d at point %d of %d: X %v, Y %v", c.n, i, n, Right(p), Right(s))
				}
			}
		}
	}
	all := row(97, true)
	for i := range all.P {
		all.P[i] = at(near, -near)
	}
	if !Right(all) {
		t.Error("P7.1: Right, each number at its bound")
	}
}

// R5: points behind a list's length are none of the path's.
func TestRightWithRoomBehind(t *testing.T) {
	p := row(101, true)
	for i := 97; i < len(p.P); i++ {
		p.P[i] = at(most, least)
	}
	for _, c := range []struct {
		n    int
		want bool
	}{{0, false}, {3, false}, {4, true}, {5, false}, {97, true}, {98, false}} {
		if got := Right(api.Path{Closed: true, P: p.P[:c.n]}); got != c.want {
			t.Errorf("R5: Right of %d points of more: %v", c.n, got)
		}
	}
}

func TestFits(t *testing.T) {
	counts := []int{0, 1, 3, 4, 5, 7, 96, 97, 98, 1000}
	for _, n := range counts {
		for _, m := range counts {
			for _, a := range []bool{false, true} {
				for _, b := range []bool{false, true} {
					if got := Fits(row(n, a), row(m, b)); got != (n == m && a == b) {
						t.Errorf("P7.1: Fits of %d and %d points, closed %v, %v: %v", n, m, a, b, got)
					}
				}
			}
		}
	}
	// What the numbers are does not matter.
	if !Fits(of(true, least, most, 1, 2), of(true, 3, 4, most, least)) {
		t.Error("P7.1: Fits of two with unlike numbers")
	}
	if !Fits(api.Path{}, api.Path{P: []api.Point{}}) || !Fits(api.Path{P: row(4, true).P[:0]}, api.Path{}) || Fits(api.Path{Closed: true}, api.Path{P: []api.Point{}}) {
		t.Error("R4: Fits of nil and empty lists")
	}
}

func TestSame(t *testing.T) {
	for _, n := range []int{1, 4, 7, 97, 200} {
		for _, closed := range []bool{false, true} {
			p := row(n, closed)
			if !Same(p, row(n, closed)) || !Same(p, p) {
				t.Errorf("P7.1: Same of %d points, and the same", n)
			}
			for _, more := range []api.Path{row(n, !closed), row(n-1, closed), row(n+1, closed), {Closed: closed}} {
				if Same(p, more) || Same(more, p) {
					t.Errorf("P7.1: Same of %d points, and %d, closed %v", n, len(more.P), more.Closed)
				}
			}
			for i := range n {
				for _, d := range []int64{1, -1, 1 << 32, least} {
					x, y := row(n, closed), row(n, closed)
					x.P[i].X += d
					y.P[i].Y += d
					if Same(p, x) || Same(x, p) || Same(p, y) || Same(y, p) {
						t.Errorf("P7.1: Same, point %d of %d another one by %d", i, n, d)
					}
				}
			}
		}
	}
	turned := of(false, 1, 2)
	if Same(turned, of(false, 2, 1)) || Same(of(true, 1, 2, 3, 4), of(true, 3, 4, 1, 2)) {
		t.Error("P7.1: Same of numbers in another order")
	}
}

func TestSameOfNoPoints(t *testing.T) {
	none := [][]api.Point{nil, {}, row(4, true).P[:0]}
	for _, a := range none {
		for _, b := range none {
			if !Same(api.Path{P: a}, api.Path{P: b}) || !Same(api.Path{Closed: true, P: a}, api.Path{Closed: true, P: b}) {
				t.Error("R4: Same of nil and empty lists")
			}
			if Same(api.Path{Closed: true, P: a}, api.Path{P: b}) || Same(api.Path{P: a}, api.Path{Closed: true, P: b}) {
				t.Error("P7.1: Same of no points, the one closed")
			}
		}
	}
}

func TestMorphByHand(t *testing.T) {
	a, b := of(true, 0, 10, 10, 13, -5, 0, 100, 7), of(true, 10, 0, 13, 10, 5, 0, -100, 7)
	for _, c := range []struct {
		t    int64
		want api.Path
	}{
		{0, a}, {one, b},
		// What does not divide evenly goes down, rising and falling alike.
		{half, of(true, 5, 5, 11, 11, 0, 0, 0, 7)},
		{one / 4, of(true, 2, 7, 10, 12, -3, 0, 50, 7)},
		{1, of(true, 0, 9, 10, 12, -5, 0, 99, 7)},
		{one - 1, of(true, 9, 0, 12, 10, 4, 0, -100, 7)},
		// Below 0 and past One the way goes on.
		{-1, of(true, -1, 10, 9, 13, -6, 0, 100, 7)},
		{-one, of(true, -10, 20, 7, 16, -15, 0, 300, 7)},
		{one + 1, of(true, 10, -1, 13, 9, 5, 0, -101, 7)},
		{2 * one, of(true, 20, -10, 16, 7, 15, 0, -300, 7)},
		// 2^40 by One is 2^24: as far as a share goes.
		{great, of(true, 10<<24, 10-10<<24, 10+3<<24, 13-3<<24, -5+10<<24, 0, 100-200<<24, 7)},
		{most, of(true, 10<<24, 10-10<<24, 10+3<<24, 13-3<<24, -5+10<<24, 0, 100-200<<24, 7)},
		{least, of(true, -10<<24, 10+10<<24, 10-3<<24, 13+3<<24, -5-10<<24, 0, 100+200<<24, 7)},
	} {
		if got := Morph(a, b, c.t); !like(got, c.want) {
			t.Errorf("P7.1: Morph by %d: %v, want %v", c.t, got, c.want)
		}
		open, other := api.Path{P: a.P}, api.Path{P: b.P}
		if got := Morph(open, other, c.t); !like(got, api.Path{P: c.want.P}) {
			t.Errorf("P7.1: Morph of open ones by %d: %v, want %v", c.t, got, c.want.P)
		}
	}
}

// Numbers past Great are held, by the share 0 too.
func TestMorphFarOut(t *testing.T) {
	for i, c := range []struct{ a, b, t, want int64 }{
		{great, -great, 0, great}, {great + 1, 0, 0, great}, {most, 0, 0, great}, {least, 0, 0, -great}, {-great - 1, 0, 0, -great},
		{0, most, one, great}, {0, least, one, -great}, {5, great + 1, one, great}, {5, -great - 1, one, 5 - great},
		// The way itself is held, so that it ends at half of it, by any share past One too.
		{great, -great, one, 0}, {-great, great, one, 0}, {least, most, one, 0}, {most, least, one, 0},
		{least, most, half, -great / 2}, {most, least, half, great / 2}, {most, least, 2 * one, 0}, {least, most, most, 0},
		{most, most, half, great}, {least, least, half, -great}, {most, most, most, great}, {0, 1, most, 1 << 24}, {0, 1, least, -1 << 24},
		{0, great, great, great}, {0, great, -great, -great}, {0, least, least, great}, {0, most, least, -great},
	} {
		a, b := of(false, c.a, 3, 4, c.a), of(false, c.b, 3, 4, c.b)
		if got, want := Morph(a, b, c.t), of(false, c.want, 3, 4, c.want); !like(got, want) {
			t.Errorf("P7.1: Morph, case %d: %v, want %v", i, got, want)
		}
	}
}

// Where the other one does not fit, the first is answered as it stands, far numbers not held, whatever the share.
func TestMorphOfUnlikeOnes(t *testing.T) {
	for _, n := range []int{0, 1, 4, 5, 97, 200} {
		for _, closed := range []bool{false, true} {
			a := row(n, closed)
			for i := range a.P {
				if i%3 == 0 {
					a.P[i] = at(most, least)
				}
			}
			for _, b := range []api.Path{row(n, !closed), row(n+1, closed), row(n+3, closed), row(n+4, !closed), row(300, closed)} {
				for _, share := range []int64{0, half, one, -one, 2 * one, most, least} {
					if got := Morph(a, b, share); !like(got, a) {
						t.Errorf("P7.1: Morph of %d points and %d that do not fit, by %d: %v", n, len(b.P), share, got)
					}
					if got := Morph(b, a, share); !like(got, b) {
						t.Errorf("P7.1: Morph of %d points and %d that do not fit, by %d: %v", len(b.P), n, share, got)
					}
				}
			}
		}
	}
}

func TestMorphOfNoPoints(t *testing.T) {
	for _, closed := range []bool{false, true} {
		for _, l := range [][]api.Point{nil, {}, row(4, true).P[:0]} {
			got := Morph(api.Path{Closed: closed, P: l}, api.Path{Closed: closed}, half)
			if len(got.P) != 0 || got.Closed != closed {
				t.Errorf("P7.1: Morph of no points, closed %v: %v", closed, got)
			}
		}
	}
}

// A path with itself, and with one whose list lies in the same memory.
func TestMorphOfOneList(t *testing.T) {
	p := row(7, true)
	was := clonePath(p)
	for _, share := range []int64{0, half, one, 3 * one} {
		if got := Morph(p, p, share); !like(got, was) {
			t.Errorf("P7.1: Morph of a path and itself by %d: %v", share, got)
		}
		a, b := api.Path{P: p.P[:4]}, api.Path{P: p.P[3:]}
		want := wantMorph(clonePath(a), clonePath(b), share)
		got := Morph(a, b, share)
		if !like(got, want) {
			t.Errorf("P7.1: Morph of two parts of one list by %d: %v, want %v", share, got, want)
		}
		spoil(got)
		if !like(p, was) {
			t.Fatalf("R2: %v became %v", was, p)
		}
	}
}

func TestMapByHand(t *testing.T) {
	p := of(true, 0, 0, one, 0, 2*one, 3*one, -one, one)
	for i, c := range []struct {
		m    api.Mat
		want api.Path
	}{
		{mat.Same(), p},
		{api.Mat{A: one, D: one, E: 5, F: -7}, of(true, 5, -7, one+5, -7, 2*one+5, 3*one-7, -one+5, one-7)},
		{api.Mat{A: 2 * one, D: -one}, of(true, 0, 0, 2*one, 0, 4*one, -3*one, -2*one, -one)},
		// A quarter of a turn, and halves of an odd number.
		{api.Mat{B: one, C: -one}, of(true, 0, 0, 0, one, -3*one, 2*one, -one, -one)},
		{mat.Made(one, 0, 0, 0, one, one, 90*one), of(true, one, 0, one, one, -2*one, 2*one, 0, -one)},
		{api.Mat{A: 1, D: 1, E: 9}, of(true, 9, 0, 10, 0, 11, 3, 8, 1)},
		{api.Mat{}, of(true, 0, 0, 0, 0, 0, 0, 0, 0)},
		// Places end at Far.
		{api.Mat{E: great, F: -great}, of(true, far, -far, far, -far, far, -far, far, -far)},
		{api.Mat{A: most, D: least}, of(true, 0, 0, far, 0, far, -far, -far, -far)},
		{api.Mat{A: one, D: one, E: far - one, F: 1 - far}, of(true, far-one, 1-far, far, 1-far, far, 3*one+1-far, far-2*one, one+1-far)},
	} {
		if got := Map(c.m, p); !like(got, c.want) {
			t.Errorf("P7.1: Map, case %d: %v, want %v", i, got, c.want)
		}
		if got := Map(c.m, api.Path{P: p.P}); !like(got, api.Path{P: c.want.P}) {
			t.Errorf("P7.1: Map of an open path, case %d: %v, want %v", i, got, c.want.P)
		}
	}
	if got, want := Map(mat.Same(), of(false, most, least, near, -near, far+1, -far-1)), of(false, far, -far, near, -near, far, -far); !like(got, want) {
		t.Errorf("P7.1: Map of far places by none: %v, want %v", got, want)
	}
	if got, want := Map(api.Mat{A: half, D: half}, of(false, 3, -3)), of(false, 1, -2); !like(got, want) {
		t.Errorf("P7.1: Map rounds down: %v, want %v", got, want)
	}
}

func TestMapOfNoPoints(t *testing.T) {
	for _, closed := range []bool{false, true} {
		for _, l := range [][]api.Point{nil, {}, row(4, true).P[:0]} {
			got := Map(api.Mat{A: one, E: 5, F: 7}, api.Path{Closed: closed, P: l})
			if len(got.P) != 0 || got.Closed != closed {
				t.Errorf("P7.1: Map of no points, closed %v: %v", closed, got)
			}
		}
	}
}

// Paths of any length, right or not, of any numbers; half of them fit, some are the same but for one number.
func TestTwoOfAnySize(t *testing.T) {
	r, pick := rand.New(rand.NewSource(3)), picker(4)
	for range 20000 {
		a, b := anyPath(r, pick, 8), anyPath(r, pick, 8)
		switch r.Intn(4) {
		case 0:
			b = clonePath(a)
			if n := len(b.P); n > 0 && r.Intn(2) == 0 {
				b.P[r.Intn(n)].Y = pick()
			}
		case 1:
			b.Closed = a.Closed
			n := min(len(a.P), len(b.P))
			a.P, b.P = a.P[:n], b.P[:n]
		}
		checkTwo(t, a, b, pick(), anyMat(pick))
	}
	for range 100 {
		checkTwo(t, anyPath(r, pick, 300), anyPath(r, pick, 300), pick(), anyMat(pick))
	}
	checkTwo(t, row(1<<17, true), row(1<<17, true), half, mat.Same())
	checkTwo(t, row(1<<17, true), row(4, true), half, mat.Same())
}

// Paths that may stand in a document are asked as such, and stay such half way.
func TestTwoThatAreRight(t *testing.T) {
	r := rand.New(rand.NewSource(8))
	pick := func() int64 { return r.Int63n(2*near+1) - near }
	for range 300 {
		n := 4 + 3*r.Intn(32)
		a, b := row(n, r.Intn(2) == 0), row(n, false)
		b.Closed = a.Closed
		for i := range n {
			a.P[i], b.P[i] = at(pick(), pick()), at(pick(), pick())
		}
		share := r.Int63n(one + 1)
		if !Right(a) || !Right(b) || !Right(Morph(a, b, share)) {
			t.Fatalf("P7.1: Right of %v, %v, or between", a, b)
		}
		if !like(Morph(a, b, 0), a) || !like(Morph(a, b, one), b) {
			t.Fatalf("P7.1: Morph(%v, %v) at its ends", a, b)
		}
		checkTwo(t, a, b, share, mat.Made(pick(), pick(), pick(), pick(), one, one, pick()))
	}
}

// R2: an answer does not follow what was handed in, and two answers do not share.
func TestAnswersStand(t *testing.T) {
	a, b := row(4, true), row(4, true)
	b.P[2] = at(500, 600)
	first := []api.Path{Morph(a, b, half), Morph(a, row(5, true), half), Map(mat.Same(), a)}
	var was []api.Path
	for _, p := range first {
		was = append(was, clonePath(p))
	}
	again := []api.Path{Morph(a, b, half), Morph(a, row(5, true), half), Map(mat.Same(), a)}
	for _, p := range append(again, a, b) {
		spoil(p)
	}
	for i, p := range first {
		if !like(p, was[i]) {
			t.Errorf("R2: answer %d became %v, was %v", i, p, was[i])
		}
	}
}

// R4: what is asked between two calls leaves no trace in the second one.
func TestSameAgain(t *testing.T) {
	type answer struct {
		right, empty, fits, same, keys bool
		morph, at, mapped              api.Path
	}
	ask := func(seed int64) answer {
		r, pick := rand.New(rand.NewSource(seed)), picker(seed)
		a, b, l := anyPath(r, pick, 5), anyPath(r, pick, 5), anyKeys(r, pick, 6)
		return answer{Right(a), Empty(a), Fits(a, b), Same(a, b), Keys(l), Morph(a, b, pick()), At(l, pick()), Map(anyMat(pick), a)}
	}
	alike := func(a, b answer) bool {
		return a.right == b.right && a.empty == b.empty && a.fits == b.fits && a.same == b.same && a.keys == b.keys &&
			like(a.morph, b.morph) && like(a.at, b.at) && like(a.mapped, b.mapped)
	}
	var first []answer
	for seed := range int64(200) {
		first = append(first, ask(seed))
	}
	for seed := int64(199); seed >= 0; seed-- {
		if got := ask(seed); !alike(got, first[seed]) {
			t.Fatalf("R4: seed %d: %v, first %v", seed, got, first[seed])
		}
	}
}
