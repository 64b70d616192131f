package flat

import (
	"math/rand"
	"slices"
	"testing"

	"mutoscope/api"
)

// row is a path of n points, no two numbers of it alike: each part is a bent one.
func row(n int, closed bool) api.Path {
	p := api.Path{Closed: closed, P: make([]api.Point, n)}
	for i := range p.P {
		p.P[i] = at(int64(11*i*i+1), int64(-7*i*i-2))
	}
	return p
}

// straight is a path of n straight parts.
func straight(n int, closed bool) api.Path {
	p := api.Path{Closed: closed, P: []api.Point{at(0, 0)}}
	for i := range n {
		d := at(int64(100*i+100), int64(-50*i))
		p.P = append(p.P, p.P[3*i], d, d)
	}
	return p
}

// checkOf looks whether p stays as it was too, also when the answer is written into.
func checkOf(t *testing.T, p api.Path) {
	t.Helper()
	list, changed := guard(p.P)
	got, want := Of(api.Path{Closed: p.Closed, P: list}), wantOf(p)
	if !like(got, want) {
		t.Fatalf("P8.1: Of(%v): %v, want %v", p, got, want)
	}
	spoil(got.P)
	if changed() {
		t.Fatalf("R2: Of changed %v to %v", p, list)
	}
}

func TestOfNoPoints(t *testing.T) {
	for _, closed := range []bool{false, true} {
		for i, l := range [][]api.Point{nil, {}, row(4, true).P[:0]} {
			if got := Of(api.Path{Closed: closed, P: l}); got.Closed != closed || len(got.P) != 0 {
				t.Errorf("P8.1: Of no points, case %d, closed %v: %v", i, closed, got)
			}
		}
	}
}

func TestOfWrongLength(t *testing.T) {
	for n := 1; n <= 130; n++ {
		for _, closed := range []bool{false, true} {
			got := Of(row(n, closed))
			want := 0
			if n >= 4 && n <= 97 && n%3 == 1 {
				want = 1 + (n-1)/3*8
			}
			if len(got.P) != want || got.Closed != closed {
				t.Errorf("P8.1: Of %d points, closed %v: %d points, closed %v", n, closed, len(got.P), got.Closed)
			}
		}
	}
	for _, n := range []int{1000, 3001, 1 << 20, 1<<20 + 1} {
		p := api.Path{Closed: n%2 == 0, P: make([]api.Point, n)}
		if got := Of(p); len(got.P) != 0 || got.Closed != p.Closed {
			t.Errorf("P8.1: Of %d points: %d points, closed %v", n, len(got.P), got.Closed)
		}
	}
}

func TestOfNumbers(t *testing.T) {
	for _, c := range []struct {
		n    int64
		want bool
	}{
		{0, true}, {near - 1, true}, {near, true}, {-near, true},
		{near + 1, false}, {-near - 1, false}, {far, false}, {-far, false}, {great, false}, {1 << 32, false}, {most, false}, {least, false},
	} {
		for _, n := range []int{4, 7, 97} {
			for i := range n {
				p, s := row(n, i%2 == 0), row(n, i%2 == 0)
				p.P[i].X, s.P[i].Y = c.n, c.n
				x, y := Of(p), Of(s)
				if len(x.P) > 0 != c.want || len(y.P) > 0 != c.want || x.Closed != p.Closed || y.Closed != p.Closed {
					t.Errorf("P8.1: Of, %d at point %d of %d: X %v, Y %v", c.n, i, n, x, y)
				}
				checkOf(t, p)
				checkOf(t, s)
			}
		}
	}
}

func TestOfOnePart(t *testing.T) {
	a, b, c, d := at(0, 0), at(0, 512), at(512, 512), at(512, 0)
	for i, x := range []struct{ p, want []api.Point }{
		{[]api.Point{a, a, d, d}, points(0, 0, 512, 0)},
		{[]api.Point{d, d, a, a}, points(512, 0, 0, 0)},
		{[]api.Point{a, a, a, a}, points(0, 0, 0, 0)},
		{[]api.Point{a, b, c, d}, points(0, 0, 22, 168, 80, 288, 162, 360, 256, 384, 350, 360, 432, 288, 490, 168, 512, 0)},
		// b is a alone, or c is d alone: bent.
		{[]api.Point{a, a, c, d}, points(0, 0, 22, 21, 80, 72, 162, 135, 256, 192, 350, 225, 432, 216, 490, 147, 512, 0)},
		{[]api.Point{a, b, d, d}, points(0, 0, 22, 147, 80, 216, 162, 225, 256, 192, 350, 135, 432, 72, 490, 21, 512, 0)},
		// By X or by Y alone they are not one.
		{points(0, 0, 0, 8, 24, 0, 24, 0), points(0, 0, 0, 1, 3, 3, 6, 3, 12, 3, 15, 0, 20, 0, 22, 0, 24, 0)},
		// b is d, and c is a: not the ones that are asked for.
		{[]api.Point{a, d, a, d}, points(0, 0, 148, 0, 224, 0, 252, 0, 256, 0, 260, 0, 288, 0, 364, 0, 512, 0)},
		// On a line, but b is not a: bent too.
		{points(0, 0, 8, 0, 16, 0, 24, 0), points(0, 0, 3, 0, 6, 0, 9, 0, 12, 0, 15, 0, 18, 0, 21, 0, 24, 0)},
		// There and back to one place.
		{[]api.Point{a, d, d, a}, points(0, 0, 168, 0, 288, 0, 360, 0, 384, 0, 360, 0, 288, 0, 168, 0, 0, 0)},
	} {
		for _, closed := range []bool{false, true} {
			p := api.Path{Closed: closed, P: x.p}
			if got := Of(p); !like(got, api.Poly{Closed: closed, P: x.want}) {
				t.Errorf("P8.1: Of, case %d, closed %v: %v, want %v", i, closed, got, x.want)
			}
			checkOf(t, p)
		}
	}
}

// Each of a, b, c, d beside the others by one, in X or in Y.
func TestOfNearlyStraight(t *testing.T) {
	for i := range 4 {
		for _, by := range []int64{1, -1, 1 << 20} {
			across, up := points(5, 6, 5, 6, 70, 80, 70, 80), points(5, 6, 5, 6, 70, 80, 70, 80)
			across[i].X += by
			up[i].Y += by
			for _, l := range [][]api.Point{across, up} {
				got := Of(api.Path{P: l})
				if want := append([]api.Point{l[0]}, wantBend(l[0], l[1], l[2], l[3])...); !slices.Equal(got.P, want) {
					t.Errorf("P8.1: Of %v: %v, want %v", l, got.P, want)
				}
			}
		}
	}
}

func TestOfParts(t *testing.T) {
	a, b, c, d := at(0, 0), at(0, 512), at(512, 512), at(512, 0)
	bent := points(22, 168, 80, 288, 162, 360, 256, 384, 350, 360, 432, 288, 490, 168, 512, 0)
	back := points(490, 168, 432, 288, 350, 360, 256, 384, 162, 360, 80, 288, 22, 168, 0, 0)
	for i, x := range []struct{ p, want []api.Point }{
		{[]api.Point{a, a, b, b, b, c, c}, []api.Point{a, b, c}},
		{[]api.Point{a, a, b, b, b, c, c, c, a, a}, []api.Point{a, b, c, a}},
		{[]api.Point{d, d, a, a, b, c, d}, slices.Concat([]api.Point{d, a}, bent)},
		{[]api.Point{a, b, c, d, d, a, a}, slices.Concat([]api.Point{a}, bent, []api.Point{a})},
		{[]api.Point{a, b, c, d, c, b, a}, slices.Concat([]api.Point{a}, bent, back)},
		{[]api.Point{c, c, a, a, b, c, d, d, b, b}, slices.Concat([]api.Point{c, a}, bent, []api.Point{b})},
		{[]api.Point{a, b, c, d, d, a, a, b, c, d}, slices.Concat([]api.Point{a}, bent, []api.Point{a}, bent)},
		{[]api.Point{a, b, c, d, d, d, d, c, b, a}, slices.Concat([]api.Point{a}, bent, []api.Point{d}, back)},
	} {
		for _, closed := range []bool{false, true} {
			p := api.Path{Closed: closed, P: x.p}
			if got := Of(p); !like(got, api.Poly{Closed: closed, P: x.want}) {
				t.Errorf("P8.1: Of parts, case %d, closed %v: %v, want %v", i, closed, got, x.want)
			}
			checkOf(t, p)
		}
	}
}

func TestOfMany(t *testing.T) {
	for _, closed := range []bool{false, true} {
		for n := 1; n <= 32; n++ {
			p := straight(n, closed)
			if got := Of(p); len(got.P) != n+1 {
				t.Errorf("P8.1: Of %d straight parts: %d points", n, len(got.P))
			}
			checkOf(t, p)
			checkOf(t, row(3*n+1, closed))
		}
		if got := Of(straight(33, closed)); len(got.P) != 0 || got.Closed != closed {
			t.Errorf("P8.1: Of 33 parts: %v", got)
		}
		if got := Of(row(97, closed)); len(got.P) != 257 {
			t.Errorf("P8.1: Of 32 bent parts: %d points", len(got.P))
		}
	}
}

func TestOf(t *testing.T) {
	r := rand.New(rand.NewSource(84))
	for range 5000 {
		p := api.Path{Closed: r.Intn(2) == 0, P: points(r.Int63n(2*near+1)-near, r.Int63n(9)-4)}
		for range 1 + r.Intn(32) {
			a, d := p.P[len(p.P)-1], at(r.Int63n(2*near+1)-near, r.Int63n(9)-4)
			b, c := a, d
			if r.Intn(3) == 0 {
				b = at(r.Int63n(2*near+1)-near, r.Int63n(9)-4)
			}
			if r.Intn(3) == 0 {
				c = at(r.Int63n(2*near+1)-near, r.Int63n(9)-4)
			}
			p.P = append(p.P, b, c, d)
		}
		if r.Intn(10) == 0 {
			p.P[r.Intn(len(p.P))].X = near + 1 + r.Int63n(5)
		}
		if r.Intn(10) == 0 {
			p.P = p.P[:r.Intn(len(p.P)+1)]
		}
		checkOf(t, p)
	}
}

// R5: points behind a list's length are none of the path's.
func TestOfRoomBehind(t *testing.T) {
	p := row(101, true)
	for i := 97; i < len(p.P); i++ {
		p.P[i] = at(most, least)
	}
	for _, c := range []struct{ n, want int }{{0, 0}, {3, 0}, {4, 9}, {5, 0}, {7, 17}, {97, 257}, {98, 0}, {100, 0}} {
		if got := Of(api.Path{Closed: true, P: p.P[:c.n]}); len(got.P) != c.want || !got.Closed {
			t.Errorf("R5: Of %d points of more: %d points", c.n, len(got.P))
		}
	}
}

// R2, R4: what was answered stands, whatever is written into what was handed in, and is answered again.
func TestAnswersStand(t *testing.T) {
	p := row(7, true)
	poly, bend := Of(p), Bend(p.P[0], p.P[1], p.P[2], p.P[3])
	l := []api.Poly{{Closed: true, P: points(1, 2, 3, 4)}}
	m := api.Mat{A: one, D: one, E: 5}
	moved := Map(m, l)
	again, bendAgain := Of(row(7, true)), Bend(p.P[0], p.P[1], p.P[2], p.P[3])
	spoil(p.P)
	spoil(l[0].P)
	spoilPolys(l)
	if want := wantOf(row(7, true)); !like(poly, want) || !like(again, want) {
		t.Errorf("R2: Of was kept: %v, %v", poly, again)
	}
	if want := wantOf(row(7, true)).P[1:9]; !slices.Equal(bend, want) || !slices.Equal(bendAgain, want) {
		t.Errorf("R2: Bend was kept: %v, %v", bend, bendAgain)
	}
	if len(moved) != 1 || !like(moved[0], api.Poly{Closed: true, P: points(6, 2, 8, 4)}) {
		t.Errorf("R2: Map was kept: %v", moved)
	}
	spoil(poly.P)
	spoil(bend)
	if !like(again, wantOf(row(7, true))) || !slices.Equal(bendAgain, wantOf(row(7, true)).P[1:9]) {
		t.Errorf("R2: two answers share memory: %v, %v", again, bendAgain)
	}
}
