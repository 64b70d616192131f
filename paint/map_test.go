package paint

import (
	"math/rand"
	"testing"

	"mutoscope/api"
)

// someMaps move, scale, turn, slant, turn over, and do nothing; and some are of noughts.
func someMaps() []api.Mat {
	return []api.Mat{
		{A: one, D: one},
		{A: one, D: one, E: 5 * one, F: -7 * one},
		{A: 2 * one, D: 2 * one},
		{A: one / 2, D: 3 * one},
		{A: -one, D: one},
		{A: 3 * one, B: 4 * one, C: -4 * one, D: 3 * one, E: 1, F: -1},
		{B: one, C: -one},
		{A: 46341, B: 46341, C: -46341, D: 46341},
		{A: one, C: one, D: one},
		{A: one, B: one, D: one},
		{C: 7 * one, D: 9 * one},
		{A: 1, B: -1, C: 1, D: -1, E: 1, F: -1},
		{},
		{E: 9 * one, F: one},
		{A: far, B: far, C: far, D: far, E: far, F: far},
		{A: great + 1, B: -great - 1, C: great, D: -great, E: 2 * great, F: -2 * great},
		{A: most, B: most, C: most, D: most, E: most, F: most},
		{A: least, B: least, C: least, D: least, E: least, F: least},
		{A: least, B: most, C: most, D: least, E: least, F: most},
	}
}

func checkMap(t *testing.T, m api.Mat, p api.Paint) {
	t.Helper()
	was := p
	want := wantMap(m, p)
	if got := Map(m, p); got != want {
		t.Fatalf("P16.1: Map(%v, %v): %v, want %v", m, p, got, want)
	}
	if p != was {
		t.Fatalf("R2: Map(%v, %v) made it %v", m, was, p)
	}
	if got := Map(m, p); got != want {
		t.Fatalf("R4: Map(%v, %v) a second time: %v, want %v", m, p, got, want)
	}
}

func TestMapByHand(t *testing.T) {
	for _, kind := range allKinds() {
		p := painted(kind, at(2*one, one), at(-one, 3*one), 10*one)
		for _, c := range []struct {
			m     api.Mat
			p, to api.Point
			r     int64
		}{
			{api.Mat{A: one, D: one}, at(2*one, one), at(-one, 3*one), 10 * one},
			{api.Mat{A: one, D: one, E: 5, F: -6}, at(2*one+5, one-6), at(-one+5, 3*one-6), 10 * one},
			{api.Mat{A: 2 * one, D: 3 * one}, at(4*one, 3*one), at(-2*one, 9*one), 20 * one},
			{api.Mat{A: -2 * one, D: one}, at(-4*one, one), at(2*one, 3*one), 20 * one},
			{api.Mat{B: one, C: -one}, at(-one, 2*one), at(-3*one, -one), 10 * one},
			{api.Mat{A: 3 * one, B: 4 * one, D: one}, at(6*one, 9*one), at(-3*one, -one), 50 * one},
			{api.Mat{A: one, C: one, D: one}, at(3*one, one), at(2*one, 3*one), 10 * one},
			{api.Mat{C: one, D: one}, at(one, one), at(3*one, 3*one), 0},
			{api.Mat{}, at(0, 0), at(0, 0), 0},
		} {
			if got, want := Map(c.m, p), painted(kind, c.p, c.to, c.r); got != want {
				t.Errorf("P16.1: Map(%v, %v): %v, want %v", c.m, p, got, want)
			}
		}
	}
}

// R is neither held as a place is nor above 0 alone: what is below 0 is rounded down too.
func TestMapOfEachR(t *testing.T) {
	half := api.Mat{A: one / 2, D: one}
	for _, c := range [][2]int64{{0, 0}, {1, 0}, {-1, -1}, {3, 1}, {-3, -2}, {2 * far, far}, {4 * far, 2 * far}, {-4 * far, -2 * far}, {great, great / 2}, {great + 9, great / 2}, {-great - 9, -great / 2}, {most, great / 2}, {least, -great / 2}} {
		for _, kind := range allKinds() {
			if got := Map(half, painted(kind, at(0, 0), at(0, 0), c[0])).R; got != c[1] {
				t.Errorf("P16.1: Map of R %d, kind %d, by a half: %d, want %d", c[0], kind, got, c[1])
			}
		}
	}
	if got := Map(api.Mat{A: 3 * one}, painted(radial, at(0, 0), at(0, 0), great)).R; got != great {
		t.Errorf("P16.1: Map of R %d by three: %d", great, got)
	}
}

func TestMapOfEachNumber(t *testing.T) {
	base := painted(solid, at(2*one, -3*one), at(7, 5*one), 4*one)
	for _, m := range someMaps() {
		for _, kind := range allKinds() {
			base.Kind = kind
			checkMap(t, m, base)
		}
		for i := range fields(&base) {
			for _, v := range edges() {
				p := base
				*fields(&p)[i] = v
				checkMap(t, m, p)
			}
		}
	}
}

func TestMapByEachNumber(t *testing.T) {
	p := painted(linear, at(2*one, -3*one), at(7, 5*one), 4*one)
	for _, base := range someMaps() {
		for i := 0; i < 6; i++ {
			for _, v := range edges() {
				m := base
				*[]*int64{&m.A, &m.B, &m.C, &m.D, &m.E, &m.F}[i] = v
				checkMap(t, m, p)
			}
		}
	}
}

func TestMapOfAny(t *testing.T) {
	r := rand.New(rand.NewSource(161))
	pick, kinds := picker(r), allKinds()
	for i := 0; i < 30000; i++ {
		m := api.Mat{A: pick(), B: pick(), C: pick(), D: pick(), E: pick(), F: pick()}
		p := painted(kinds[r.Intn(len(kinds))], at(pick(), pick()), at(pick(), pick()), pick())
		for k := range p.A {
			p.A[k], p.B[k] = uint8(r.Intn(256)), uint8(r.Intn(256))
		}
		checkMap(t, m, p)
	}
}
