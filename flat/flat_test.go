package flat

import (
	"math"
	"math/big"
	"math/rand"
	"slices"
	"testing"

	"mutoscope/api"
	"mutoscope/mat"
)

const (
	one   = int64(api.One)
	near  = int64(api.Near)
	far   = int64(api.Far)
	great = int64(api.Great)
	least = int64(math.MinInt64)
	most  = int64(math.MaxInt64)
)

func at(x, y int64) api.Point { return api.Point{X: x, Y: y} }

// points are the numbers in pairs.
func points(numbers ...int64) []api.Point {
	var out []api.Point
	for i := 0; i+1 < len(numbers); i += 2 {
		out = append(out, at(numbers[i], numbers[i+1]))
	}
	return out
}

// The reckoning below is the chapter's, in numbers without a size.

// wantHalfNumber: big's Div rounds down where what it divides by is above 0.
func wantHalfNumber(a, b int64) int64 {
	sum := new(big.Int).Add(big.NewInt(a), big.NewInt(b))
	return sum.Div(sum, big.NewInt(2)).Int64()
}

func wantHalf(a, b api.Point) api.Point {
	return at(wantHalfNumber(a.X, b.X), wantHalfNumber(a.Y, b.Y))
}

// wantBend halves a list of parts three times, all of them at once.
func wantBend(a, b, c, d api.Point) []api.Point {
	parts := [][4]api.Point{{a, b, c, d}}
	for range 3 {
		var next [][4]api.Point
		for _, p := range parts {
			ab, bc, cd := wantHalf(p[0], p[1]), wantHalf(p[1], p[2]), wantHalf(p[2], p[3])
			abc, bcd := wantHalf(ab, bc), wantHalf(bc, cd)
			abcd := wantHalf(abc, bcd)
			next = append(next, [4]api.Point{p[0], ab, abc, abcd}, [4]api.Point{abcd, bcd, cd, p[3]})
		}
		parts = next
	}
	var out []api.Point
	for _, p := range parts {
		out = append(out, p[3])
	}
	return out
}

func wantRight(p api.Path) bool {
	n := len(p.P)
	if n == 0 {
		return !p.Closed
	}
	right := n >= 4 && n <= 97 && (n-1)/3*3 == n-1
	for _, x := range p.P {
		right = right && x.X >= -near && x.X <= near && x.Y >= -near && x.Y <= near
	}
	return right
}

func wantOf(p api.Path) api.Poly {
	out := api.Poly{Closed: p.Closed}
	if len(p.P) == 0 || !wantRight(p) {
		return out
	}
	out.P = []api.Point{p.P[0]}
	for i := 3; i < len(p.P); i += 3 {
		a, b, c, d := p.P[i-3], p.P[i-2], p.P[i-1], p.P[i]
		if a == b && c == d {
			out.P = append(out.P, d)
		} else {
			out.P = append(out.P, wantBend(a, b, c, d)...)
		}
	}
	return out
}

func like(a, b api.Poly) bool { return a.Closed == b.Closed && slices.Equal(a.P, b.P) }

// guard hands l out with room behind it; changed says whether any of it, the room too, is not as it was.
func guard(l []api.Point) (given []api.Point, changed func() bool) {
	filler := at(least, 77)
	all := append(slices.Clone(l), filler, filler, filler, filler, filler, filler)
	was := slices.Clone(all)
	return all[:len(l)], func() bool { return !slices.Equal(all, was) }
}

// spoil writes into all of an answer, its spare room too.
func spoil(l []api.Point) {
	whole := l[:cap(l)]
	for i := range whole {
		whole[i] = at(-123456789, 987654321)
	}
}

// edges: numbers round which a call may change its mind, both signs, and those beside them; and the ends of int64.
func edges() []int64 {
	out := []int64{0, least, least + 1, least + 2, least + 3, most, most - 1, most - 2, most - 3}
	for _, n := range []int64{1, 2, one, near, 1 << 31, 1 << 32, far, great, 1 << 53, 1 << 62} {
		for _, e := range []int64{n - 1, n, n + 1} {
			out = append(out, e, -e)
		}
	}
	return out
}

// picker: rows of numbers of any size, edges and small ones among them.
func picker(seed int64) func() int64 {
	r, list := rand.New(rand.NewSource(seed)), edges()
	return func() int64 {
		switch r.Intn(4) {
		case 0:
			return list[r.Intn(len(list))]
		case 1:
			return r.Int63n(2*near+1) - near
		case 2:
			return r.Int63n(20) - 10
		}
		return int64(r.Uint64()) >> r.Intn(63)
	}
}

func TestHalfByHand(t *testing.T) {
	for i, c := range []struct{ a, b, want int64 }{
		// Both even, one of them, none: above 0,
		{0, 0, 0}, {2, 4, 3}, {6, 6, 6}, {10, 0, 5}, {1, 2, 1}, {4, 7, 5}, {0, 1, 0}, {0, 9, 4}, {1, 1, 1}, {3, 5, 4}, {1, 9, 5},
		// below it,
		{-2, -4, -3}, {-6, -6, -6}, {-10, 0, -5}, {-1, -2, -2}, {-4, -7, -6}, {0, -1, -1}, {0, -9, -5}, {-1, -1, -1}, {-3, -5, -4}, {-1, -9, -5},
		// and across.
		{-2, 4, 1}, {-6, 6, 0}, {-8, 2, -3}, {-1, 2, 0}, {1, -2, -1}, {-3, 4, 0}, {3, -4, -1}, {-7, 4, -2}, {7, -4, 1}, {-1, 1, 0}, {-5, 3, -1}, {-3, 5, 1}, {-9, 1, -4},
		// The ends of int64 with themselves,
		{most, most, most}, {least, least, least}, {least, most, -1},
		// with their neighbours,
		{most, most - 1, most - 1}, {most, most - 2, most - 1}, {most - 1, most - 1, most - 1}, {most, most - 3, most - 2},
		{least, least + 1, least}, {least, least + 2, least + 1}, {least + 1, least + 1, least + 1}, {least, least + 3, least + 1},
		{least + 1, most, 0}, {least, most - 1, -1}, {least + 1, most - 1, -1}, {least + 2, most, 0}, {least + 3, most, 1}, {least, most - 2, -2}, {least, most - 3, -2},
		// and with small ones.
		{most, 0, most / 2}, {most, 1, 1 << 62}, {most, -1, most / 2}, {most, 2, 1 << 62}, {most, -2, most/2 - 1}, {most, 3, 1<<62 + 1},
		{least, 0, least / 2}, {least, 1, least / 2}, {least, -1, least/2 - 1}, {least, 2, least/2 + 1}, {least, -2, least/2 - 1}, {least, -3, least/2 - 2},
		{1 << 62, 1 << 62, 1 << 62}, {1<<62 + 1, 1 << 62, 1 << 62}, {-1 << 62, -1 << 62, -1 << 62}, {-1<<62 - 1, -1 << 62, -1<<62 - 1}, {1 << 62, -1 << 62, 0},
		// Neither bound nor place holds it.
		{near, near + 2, near + 1}, {far, far + 2, far + 1}, {great, great + 2, great + 1}, {-great, -great - 2, -great - 1}, {great + 2, 3 * great, 2*great + 1},
	} {
		if got := Half(at(c.a, 40), at(c.b, -41)); got != at(c.want, -1) {
			t.Errorf("P8.1: Half, case %d: X of %d and %d: %v, want %d", i, c.a, c.b, got, c.want)
		}
		if got := Half(at(40, c.b), at(-41, c.a)); got != at(-1, c.want) {
			t.Errorf("P8.1: Half, case %d: Y of %d and %d: %v, want %d", i, c.b, c.a, got, c.want)
		}
	}
}

func TestHalf(t *testing.T) {
	list := edges()
	for _, a := range list {
		for _, b := range list {
			p, s := at(a, b), at(b, a)
			if got, want := Half(p, s), wantHalf(p, s); got != want {
				t.Fatalf("P8.1: Half(%v, %v): %v, want %v", p, s, got, want)
			}
		}
	}
	pick := picker(81)
	for range 50000 {
		a, b := at(pick(), pick()), at(pick(), pick())
		if got, want := Half(a, b), wantHalf(a, b); got != want || Half(b, a) != want || Half(a, a) != a {
			t.Fatalf("P8.1: Half(%v, %v): %v, want %v", a, b, got, want)
		}
	}
}

func TestBendByHand(t *testing.T) {
	for i, c := range []struct {
		p    [4]int64
		want [8]int64
	}{
		// On a line, even steps.
		{[4]int64{0, 8, 16, 24}, [8]int64{3, 6, 9, 12, 15, 18, 21, 24}},
		// Each halving goes down, so that the ends of a short line fall together; but the last one is d itself.
		{[4]int64{1, 2, 3, 4}, [8]int64{1, 1, 1, 1, 1, 1, 1, 4}},
		{[4]int64{-1, -2, -3, -4}, [8]int64{-4, -4, -4, -4, -4, -4, -4, -4}},
		{[4]int64{0, 0, 0, 1}, [8]int64{0, 0, 0, 0, 0, 0, 0, 1}},
		{[4]int64{0, 0, 0, -1}, [8]int64{-1, -1, -1, -1, -1, -1, -1, -1}},
		{[4]int64{-1, 0, 0, 0}, [8]int64{-1, -1, -1, -1, -1, -1, -1, 0}},
		{[4]int64{0, -1, 0, 0}, [8]int64{-1, -1, -1, -1, -1, -1, -1, 0}},
		{[4]int64{0, 0, -1, 0}, [8]int64{-1, -1, -1, -1, -1, -1, -1, 0}},
		{[4]int64{1, 2, 2, 1}, [8]int64{1, 1, 1, 1, 1, 1, 1, 1}},
		// Odd numbers, below 0.
		{[4]int64{0, -1, -3, -7}, [8]int64{-3, -3, -3, -3, -6, -6, -7, -7}},
		{[4]int64{0, 1, 7, -5}, [8]int64{0, 0, 0, 2, 0, 0, -3, -5}},
		{[4]int64{-7, 3, -11, 5}, [8]int64{-6, -4, -4, -4, -4, -3, -1, 5}},
		{[4]int64{13, -9, 4, -1}, [8]int64{5, 1, -1, -1, -1, -1, -1, -1}},
		// Bent, and there and back.
		{[4]int64{0, 0, 512, 512}, [8]int64{22, 80, 162, 256, 350, 432, 490, 512}},
		{[4]int64{0, 512, 512, 0}, [8]int64{168, 288, 360, 384, 360, 288, 168, 0}},
		// The ends of int64.
		{[4]int64{least, least, most, most}, [8]int64{-8430738502437568513, -6341068275337658369, -3386706919782612993, -1, 3386706919782612991, 6341068275337658367, 8430738502437568511, most}},
		{[4]int64{most, least, most, least}, [8]int64{3891110078048108543, 1152921504606846975, 144115188075855871, -1, -144115188075855873, -1152921504606846977, -3891110078048108545, least}},
		{[4]int64{0, most, most, 0}, [8]int64{3026418949592973311, 5188146770730811391, 6485183463413514239, 6917529027641081855, 6485183463413514239, 5188146770730811391, 3026418949592973311, 0}},
		{[4]int64{most, most - 1, most - 2, most - 3}, [8]int64{most - 3, most - 3, most - 3, most - 3, most - 3, most - 3, most - 3, most - 3}},
		{[4]int64{least, least + 1, least + 2, least + 3}, [8]int64{least, least, least, least, least, least, least, least + 3}},
	} {
		checkBend(t, i, c.p, c.want)
	}
}

// checkBend asks for the numbers as X, with Y that rest, and the other way round.
func checkBend(t *testing.T, i int, p [4]int64, want [8]int64) {
	t.Helper()
	across := Bend(at(p[0], -5), at(p[1], -5), at(p[2], -5), at(p[3], -5))
	up := Bend(at(7, p[0]), at(7, p[1]), at(7, p[2]), at(7, p[3]))
	if len(across) != 8 || len(up) != 8 {
		t.Fatalf("P8.1: Bend, case %d: %d and %d points", i, len(across), len(up))
	}
	for j, w := range want {
		if across[j] != at(w, -5) || up[j] != at(7, w) {
			t.Errorf("P8.1: Bend, case %d, point %d: %v and %v, want %d", i, j, across[j], up[j], w)
		}
	}
}

func TestBendBothWays(t *testing.T) {
	got := Bend(at(0, 0), at(-1, 1), at(-3, 7), at(-7, -5))
	if want := points(-3, 0, -3, 0, -3, 0, -3, 2, -6, 0, -6, 0, -7, -3, -7, -5); !slices.Equal(got, want) {
		t.Errorf("P8.1: Bend: %v, want %v", got, want)
	}
	got = Bend(at(13, -7), at(-9, 3), at(4, -11), at(-1, 5))
	if want := points(5, -6, 1, -4, -1, -4, -1, -4, -1, -4, -1, -3, -1, -1, -1, 5); !slices.Equal(got, want) {
		t.Errorf("P8.1: Bend: %v, want %v", got, want)
	}
}

func TestBendOfOnePlace(t *testing.T) {
	for _, x := range edges() {
		for _, y := range []int64{0, -3, x, ^x} {
			p := at(x, y)
			if got := Bend(p, p, p, p); !slices.Equal(got, []api.Point{p, p, p, p, p, p, p, p}) {
				t.Errorf("P8.1: Bend of %v alone: %v", p, got)
			}
		}
	}
}

// A part that is no bend at all still has eight ends: that it is one, Of alone asks.
func TestBendOfStraightPart(t *testing.T) {
	a, d := at(0, 512), at(512, 0)
	want := points(22, 490, 80, 432, 162, 350, 256, 256, 350, 162, 432, 80, 490, 22, 512, 0)
	if got := Bend(a, a, d, d); !slices.Equal(got, want) {
		t.Errorf("P8.1: Bend of a straight part: %v, want %v", got, want)
	}
}

func TestBend(t *testing.T) {
	pick := picker(82)
	for range 20000 {
		a, b, c, d := at(pick(), pick()), at(pick(), pick()), at(pick(), pick()), at(pick(), pick())
		got, want := Bend(a, b, c, d), wantBend(a, b, c, d)
		if !slices.Equal(got, want) || got[7] != d {
			t.Fatalf("P8.1: Bend(%v, %v, %v, %v): %v, want %v", a, b, c, d, got, want)
		}
	}
}

// Map of any polys, and what it leaves as it was.
func checkMap(t *testing.T, m api.Mat, l []api.Poly) {
	t.Helper()
	given := make([]api.Poly, len(l), len(l)+2)
	changed := make([]func() bool, len(l))
	for i, p := range l {
		given[i].Closed = p.Closed
		given[i].P, changed[i] = guard(p.P)
	}
	behind := points(1, 2, 3, 4)
	room := given[:len(l)+2]
	room[len(l)], room[len(l)+1] = api.Poly{Closed: true, P: behind}, api.Poly{P: behind}
	got := Map(m, given)
	if len(got) != len(l) {
		t.Fatalf("P8.1: Map of %d polys: %d", len(l), len(got))
	}
	for i, p := range l {
		checkMapped(t, m, p, got[i])
	}
	for i := range got {
		spoil(got[i].P)
	}
	spoilPolys(got)
	for i, p := range l {
		if changed[i]() || !like(given[i], p) {
			t.Fatalf("R2: Map changed %v to %v", p, given[i])
		}
	}
	if !like(room[len(l)], api.Poly{Closed: true, P: points(1, 2, 3, 4)}) || !like(room[len(l)+1], api.Poly{P: points(1, 2, 3, 4)}) {
		t.Fatalf("R5: Map changed the room behind its list: %v", room[len(l):])
	}
}

func checkMapped(t *testing.T, m api.Mat, p, got api.Poly) {
	t.Helper()
	if got.Closed != p.Closed || len(got.P) != len(p.P) {
		t.Fatalf("P8.1: Map(%v) of %v: %v", m, p, got)
	}
	for j := range p.P {
		if want := mat.Apply(m, p.P[j]); got.P[j] != want {
			t.Fatalf("P8.1: Map(%v) of %v: point %d is %v, want %v", m, p, j, got.P[j], want)
		}
	}
}

// spoilPolys writes into a list of polys, its spare room too.
func spoilPolys(l []api.Poly) {
	whole := l[:cap(l)]
	for i := range whole {
		whole[i] = api.Poly{Closed: true, P: points(9, 9)}
	}
}

func TestMapByHand(t *testing.T) {
	l := []api.Poly{
		{Closed: true, P: points(1, 2, -3, 4, 5, -7)},
		{P: points(-2, -1)},
		{Closed: true},
		{},
		{P: points(0, 0, far, -far)},
	}
	for i, c := range []struct {
		m    api.Mat
		want [][]api.Point
	}{
		{api.Mat{A: one, D: one}, [][]api.Point{points(1, 2, -3, 4, 5, -7), points(-2, -1), nil, nil, points(0, 0, far, -far)}},
		{api.Mat{A: one, D: one, E: 10, F: -20}, [][]api.Point{points(11, -18, 7, -16, 15, -27), points(8, -21), nil, nil, points(10, -20, far, -far)}},
		// A quarter of a turn: x goes to y, y to -x.
		{api.Mat{B: one, C: -one}, [][]api.Point{points(-2, 1, -4, -3, 7, 5), points(1, -2), nil, nil, points(0, 0, far, far)}},
		// What does not divide evenly goes down.
		{api.Mat{A: one / 2, D: 3 * one}, [][]api.Point{points(0, 6, -2, 12, 2, -21), points(-1, -3), nil, nil, points(0, 0, far/2, -far)}},
		{api.Mat{A: 2 * one, B: one, C: one, D: -one}, [][]api.Point{points(4, -1, -2, -7, 3, 12), points(-5, -1), nil, nil, points(0, 0, far, far)}},
		{api.Mat{}, [][]api.Point{points(0, 0, 0, 0, 0, 0), points(0, 0), nil, nil, points(0, 0, 0, 0)}},
		{api.Mat{E: most, F: least}, [][]api.Point{points(far, -far, far, -far, far, -far), points(far, -far), nil, nil, points(far, -far, far, -far)}},
	} {
		got := Map(c.m, l)
		if len(got) != len(l) {
			t.Fatalf("P8.1: Map, case %d: %d polys", i, len(got))
		}
		for j, want := range c.want {
			if !like(got[j], api.Poly{Closed: l[j].Closed, P: want}) {
				t.Errorf("P8.1: Map, case %d, poly %d: %v, want %v", i, j, got[j], want)
			}
		}
	}
}

func TestMapOfNone(t *testing.T) {
	room := []api.Poly{{Closed: true, P: points(1, 2)}}
	for i, l := range [][]api.Poly{nil, {}, room[:0]} {
		if got := Map(api.Mat{A: one, D: one}, l); len(got) != 0 {
			t.Errorf("P8.1: Map of no polys, case %d: %v", i, got)
		}
	}
	for _, closed := range []bool{false, true} {
		for i, p := range [][]api.Point{nil, {}, points(1, 2)[:0]} {
			got := Map(api.Mat{A: one, D: one, E: 5}, []api.Poly{{Closed: closed, P: p}})
			if len(got) != 1 || got[0].Closed != closed || len(got[0].P) != 0 {
				t.Errorf("P8.1: Map of a poly without points, case %d, closed %v: %v", i, closed, got)
			}
		}
	}
}

func TestMap(t *testing.T) {
	pick, r := picker(83), rand.New(rand.NewSource(83))
	maps := []api.Mat{{}, {A: one, D: one}, {A: one, D: one, E: far, F: -far}, mat.Made(3, 4, 5, 6, 2*one, one/3, 30*one), {A: most, B: least, C: least, D: most, E: least, F: most}}
	for i := range 3000 {
		l := make([]api.Poly, r.Intn(6))
		for j := range l {
			l[j] = api.Poly{Closed: r.Intn(2) == 0, P: make([]api.Point, r.Intn(12))}
			for k := range l[j].P {
				l[j].P[k] = at(pick(), pick())
			}
		}
		m := api.Mat{A: pick(), B: pick(), C: pick(), D: pick(), E: pick(), F: pick()}
		if i < 500 {
			m = maps[i%len(maps)]
		}
		checkMap(t, m, l)
	}
}

// A poly may have any number of points, and there may be any number of polys.
func TestMapOfMany(t *testing.T) {
	long := api.Poly{Closed: true, P: make([]api.Point, 100000)}
	many := make([]api.Poly, 20000)
	for i := range long.P {
		long.P[i] = at(int64(i), int64(-i))
	}
	for i := range many {
		many[i] = api.Poly{Closed: i%3 == 0, P: points(int64(i), int64(i+1))}
	}
	m := api.Mat{A: 2 * one, D: one, F: 7}
	checkMap(t, m, []api.Poly{long})
	checkMap(t, m, many)
}

// No two lists of one answer share memory, also where one poly is handed in twice.
func TestMapOwnLists(t *testing.T) {
	p := points(1, 2, 3, 4, 5, 6)
	l := []api.Poly{{P: p}, {Closed: true, P: p}, {P: p[:1]}, {P: p[1:]}, {P: p[:0]}, {}}
	m := api.Mat{A: one, D: one, E: 1}
	want := [][]api.Point{points(2, 2, 4, 4, 6, 6), points(2, 2, 4, 4, 6, 6), points(2, 2), points(4, 4, 6, 6), nil, nil}
	for i := range l {
		got := Map(m, l)
		spoil(got[i].P)
		got[i].P = append(got[i].P, at(8, 8))
		for j := range l {
			if j != i && !slices.Equal(got[j].P, want[j]) {
				t.Errorf("R2: Map: writing into list %d changed list %d to %v", i, j, got[j].P)
			}
		}
	}
	if !slices.Equal(p, points(1, 2, 3, 4, 5, 6)) {
		t.Errorf("R2: Map: the points that were handed in became %v", p)
	}
}
