package trim

import (
	"math/rand"
	"slices"
	"testing"

	"mutoscope/api"
	"mutoscope/arc"
)

// checkOf asks for from and to in both orders, and looks whether what is handed in stays as it was, also when the answer is written into.
func checkOf(t *testing.T, l []api.Poly, from, to int64, want []api.Poly) {
	t.Helper()
	for _, c := range [][2]int64{{from, to}, {to, from}} {
		given, changed := guard(l)
		got := Of(given, c[0], c[1])
		if !alike(got, want) {
			t.Fatalf("P10.1: Of(%v, %d, %d): %v, want %v", l, c[0], c[1], got, want)
		}
		if changed() {
			t.Fatalf("R2: Of changed %v to %v", l, given)
		}
		spoilPolys(got)
		if changed() {
			t.Fatalf("R2: writing into an answer of Of changed %v to %v", l, given)
		}
	}
}

// wholes: from and to of which Span is 0, One.
func wholes() [][2]int64 {
	return [][2]int64{{0, one}, {-1, one}, {0, one + 1}, {-7, one + 7}, {-9 * one, 9 * one}, {least, most}, {0, most}, {least, one}, {-great, great}}
}

// nothings: from and to between which nothing lies, whatever the line.
func nothings() [][2]int64 {
	return [][2]int64{{0, 0}, {5, 5}, {one / 2, one / 2}, {one - 1, one - 1}, {one, one}, {-1, -1}, {-9, -5}, {-5, 0}, {least, 0}, {least, least}, {one, one + 1}, {2 * one, 3 * one}, {one, most}, {most, most}, {great, most}}
}

// parts: from and to with something between them, but not all.
func parts() [][2]int64 {
	return [][2]int64{{0, 1}, {1, 2}, {0, one / 2}, {one / 4, 3 * one / 4}, {one / 2, one}, {0, one - 1}, {1, one}, {1, one - 1}, {one - 1, one}, {least, one / 3}, {one / 3, most}}
}

func TestOfNone(t *testing.T) {
	behind := []api.Poly{open(0, 0, 64, 0), closed(1, 1, 9, 9)}
	for _, pairs := range [][][2]int64{wholes(), nothings(), parts()} {
		for _, c := range pairs {
			for i, l := range [][]api.Poly{nil, {}, behind[:0]} {
				if got := Of(l, c[0], c[1]); len(got) != 0 {
					t.Errorf("P10.1: Of no polys, case %d, %d to %d: %v", i, c[0], c[1], got)
				}
				if got := Of(l, c[1], c[0]); len(got) != 0 {
					t.Errorf("P10.1: Of no polys, case %d, %d to %d: %v", i, c[1], c[0], got)
				}
			}
		}
	}
	if !alike(behind, []api.Poly{open(0, 0, 64, 0), closed(1, 1, 9, 9)}) {
		t.Errorf("R5: Of changed the room behind its list: %v", behind)
	}
}

// All of it is l as it was given: what arc would make open, hold or leave out, too.
func TestOfWhole(t *testing.T) {
	lists := [][]api.Poly{
		{open(0, 0, 64, 0)},
		{closed(0, 0, 64, 0)},
		{{}}, {{Closed: true}}, {{P: []api.Point{}}}, {{}, {Closed: true}, {}},
		{open(5, 6)}, {closed(5, 6)}, {open(most, least)},
		{open(3, 3, 3, 3)}, {closed(3, 3, 3, 3, 3, 3)},
		{open(0, 0, 0, 0, 64, 0, 64, 0, 64, 64, 64, 64), closed(0, 0, 64, 0, 64, 0, 0, 0)},
		{open(least, most, most, least), closed(far+1, -far-1, great, -great, great+1, 7)},
		{closed(0, 0, 1, 1), {}, open(7, 8), closed(0, 0, 64, 0, 64, 64, 0, 64), {Closed: true}, open(-5, -5, -5, -5), closed(9, 9)},
		{zigzag(3000, true)},
	}
	for _, l := range lists {
		for _, c := range wholes() {
			checkOf(t, l, c[0], c[1], l)
		}
	}
}

func TestOfNothing(t *testing.T) {
	l := []api.Poly{open(0, 0, 64, 0), closed(0, 0, 64, 0, 64, 64, 0, 64), {}, {Closed: true}, open(5, 5), closed(5, 5), closed(3, 3, 3, 3), open(least, least, most, most), zigzag(1500, false)}
	for _, c := range nothings() {
		checkOf(t, l, c[0], c[1], nil)
	}
}

// Of such polys a part is never more than a point.
func TestOfShortPolys(t *testing.T) {
	behind := points(5, 6, 500, 600, 50, 60)
	for _, ends := range []bool{false, true} {
		for _, p := range [][]api.Point{nil, {}, behind[:0], behind[:1], points(5, 6), points(most, least), points(3, 3, 3, 3), points(-1, 2, -1, 2, -1, 2), points(far, least, far+1, -far, most, -great)} {
			x := api.Poly{Closed: ends, P: p}
			for _, c := range parts() {
				checkOf(t, []api.Poly{x}, c[0], c[1], nil)
				checkOf(t, []api.Poly{x, x, x}, c[0], c[1], nil)
			}
		}
	}
	if !slices.Equal(behind, points(5, 6, 500, 600, 50, 60)) {
		t.Errorf("R5: Of changed the room behind a list: %v", behind)
	}
}

func TestOfOnePoly(t *testing.T) {
	for _, c := range []struct {
		from, to     int64
		open, closed []api.Point
	}{
		// 192 long, and 256: from the beginning,
		{0, one / 4, points(0, 0, 48, 0), points(0, 0, 64, 0)},
		{0, one / 3, points(0, 0, 63, 0), points(0, 0, 64, 0, 64, 21)},
		{0, one/3 + 1, points(0, 0, 64, 0), points(0, 0, 64, 0, 64, 21)},
		{0, one / 2, points(0, 0, 64, 0, 64, 32), points(0, 0, 64, 0, 64, 64)},
		{-99, one / 2, points(0, 0, 64, 0, 64, 32), points(0, 0, 64, 0, 64, 64)},
		{least, one / 2, points(0, 0, 64, 0, 64, 32), points(0, 0, 64, 0, 64, 64)},
		{0, 3 * one / 4, points(0, 0, 64, 0, 64, 64, 48, 64), points(0, 0, 64, 0, 64, 64, 0, 64)},
		// to the end, where the closed one goes back to the first point,
		{3 * one / 4, one, points(48, 64, 0, 64), points(0, 64, 0, 0)},
		{one / 2, one, points(64, 32, 64, 64, 0, 64), points(64, 64, 0, 64, 0, 0)},
		{one / 2, one + 1, points(64, 32, 64, 64, 0, 64), points(64, 64, 0, 64, 0, 0)},
		{one / 2, most, points(64, 32, 64, 64, 0, 64), points(64, 64, 0, 64, 0, 0)},
		{one / 8, one, points(24, 0, 64, 0, 64, 64, 0, 64), points(32, 0, 64, 0, 64, 64, 0, 64, 0, 0)},
		// in the midst,
		{one / 4, 3 * one / 4, points(48, 0, 64, 0, 64, 64, 48, 64), points(64, 0, 64, 64, 0, 64)},
		{one / 4, one / 2, points(48, 0, 64, 0, 64, 32), points(64, 0, 64, 64)},
		{3 * one / 8, one / 2, points(64, 8, 64, 32), points(64, 32, 64, 64)},
		// next to an end: what a share takes of the length is rounded down,
		{0, 1, nil, nil}, {0, 255, nil, nil}, {1, 255, nil, nil},
		{0, 256, nil, points(0, 0, 1, 0)}, {255, 256, nil, points(0, 0, 1, 0)}, {0, 341, nil, points(0, 0, 1, 0)}, {0, 342, points(0, 0, 1, 0), points(0, 0, 1, 0)}, {341, 342, points(0, 0, 1, 0), nil}, {256, 511, points(0, 0, 1, 0), nil},
		{0, one - 1, points(0, 0, 64, 0, 64, 64, 1, 64), points(0, 0, 64, 0, 64, 64, 0, 64, 0, 1)},
		{one - 1, one, points(1, 64, 0, 64), points(0, 1, 0, 0)},
		{one - 256, one, points(1, 64, 0, 64), points(0, 1, 0, 0)},
		{one - 257, one, points(1, 64, 0, 64), points(0, 2, 0, 0)},
		{one - 256, one - 1, nil, nil},
		{one - 257, one - 1, nil, points(0, 2, 0, 1)},
		// and not all, though nothing is missing of it: no longer Closed.
		{1, one, points(0, 0, 64, 0, 64, 64, 0, 64), points(0, 0, 64, 0, 64, 64, 0, 64, 0, 0)},
		{255, most, points(0, 0, 64, 0, 64, 64, 0, 64), points(0, 0, 64, 0, 64, 64, 0, 64, 0, 0)},
	} {
		corners := points(0, 0, 64, 0, 64, 64, 0, 64)
		checkOf(t, []api.Poly{{P: corners}}, c.from, c.to, lines(c.open))
		checkOf(t, []api.Poly{{Closed: true, P: corners}}, c.from, c.to, lines(c.closed))
	}
}

// lines are open polys of these points; of none, none.
func lines(l ...[]api.Point) []api.Poly {
	var out []api.Poly
	for _, p := range l {
		if len(p) > 0 {
			out = append(out, api.Poly{P: p})
		}
	}
	return out
}

// Each poly is measured by its own length, and those that stay, stay in their order.
func TestOfSeveral(t *testing.T) {
	l := []api.Poly{
		open(0, 0, 3, 0), open(0, 0, 64, 0), {}, closed(0, 0, 256, 0), closed(9, 9), open(100, 0, 84, 0, 84, 16), closed(7, 7, 7, 7), closed(0, 0, 1, 0), open(0, 8, 0, 0),
	}
	for _, c := range []struct {
		from, to int64
		want     []api.Poly
	}{
		{0, one / 4, lines(points(0, 0, 16, 0), points(0, 0, 128, 0), points(100, 0, 92, 0), points(0, 8, 0, 6))},
		{0, one / 2, lines(points(0, 0, 0, 0), points(0, 0, 32, 0), points(0, 0, 256, 0), points(100, 0, 84, 0), points(0, 0, 1, 0), points(0, 8, 0, 4))},
		{one / 2, one, lines(points(0, 0, 3, 0), points(32, 0, 64, 0), points(256, 0, 0, 0), points(84, 0, 84, 16), points(1, 0, 0, 0), points(0, 4, 0, 0))},
		{one / 4, one / 2, lines(points(0, 0, 0, 0), points(16, 0, 32, 0), points(128, 0, 256, 0), points(92, 0, 84, 0), points(0, 0, 1, 0), points(0, 6, 0, 4))},
		{one / 4, 3 * one / 8, lines(points(0, 0, 0, 0), points(16, 0, 24, 0), points(128, 0, 192, 0), points(92, 0, 88, 0), points(0, 6, 0, 5))},
		{0, one / 64, lines(points(0, 0, 1, 0), points(0, 0, 8, 0))},
		{0, one / 512, lines(points(0, 0, 1, 0))},
		{0, one/512 - 1, nil},
	} {
		checkOf(t, l, c.from, c.to, c.want)
	}
}

// Places one behind the other are passed by, but where all is asked for.
func TestOfEqualPlaces(t *testing.T) {
	l := []api.Poly{open(0, 0, 0, 0, 64, 0, 64, 0, 64, 0, 64, 64, 64, 64), closed(0, 0, 64, 0, 64, 0, 0, 0)}
	checkOf(t, l, 0, one, l)
	checkOf(t, l, 1, one, lines(points(0, 0, 64, 0, 64, 64), points(0, 0, 64, 0, 0, 0)))
	checkOf(t, l, 0, one/2, lines(points(0, 0, 64, 0), points(0, 0, 64, 0)))
	checkOf(t, l, one/4, 3*one/4, lines(points(32, 0, 64, 0, 64, 32), points(32, 0, 64, 0, 32, 0)))
	checkOf(t, l, one/2, one, lines(points(64, 0, 64, 64), points(64, 0, 0, 0)))
}

func TestOfPlacesPastBounds(t *testing.T) {
	for _, l := range [][]api.Poly{
		{open(-far, 5, far, 5), closed(0, -far, 0, far)},
		{open(-far-1, 5, far+1, 5), closed(0, -far-1, 0, far+1)},
		{open(least, 5, most, 5), closed(0, least, 0, most)},
		{open(-great, 5, great, 5, most, 5), closed(0, least, 0, -great, 0, great+1)},
	} {
		checkOf(t, l, least, most, l)
		checkOf(t, l, 0, one/2, lines(points(-far, 5, 0, 5), points(0, -far, 0, far)))
		checkOf(t, l, one/4, one/2, lines(points(-far/2, 5, 0, 5), points(0, 0, 0, far)))
		checkOf(t, l, one/2, most, lines(points(0, 5, far, 5), points(0, far, 0, -far)))
		checkOf(t, l, 0, 1, lines(points(-far, 5, 16384-far, 5), points(0, -far, 0, 32768-far)))
		checkOf(t, l, one-1, one, lines(points(far-16384, 5, far, 5), points(0, 32768-far, 0, -far)))
	}
}

// zigzag goes to and fro n times, from side to side of all places.
func zigzag(n int, ends bool) api.Poly {
	p := api.Poly{Closed: ends}
	for i := range n + 1 {
		p.P = append(p.P, at(int64(i%2*2-1)*far, 0))
	}
	return p
}

// Each side is 2^30 long: of more than 1024 the length is Great, and a share one of that.
func TestOfLongLines(t *testing.T) {
	for _, ends := range []bool{false, true} {
		long, longer := zigzag(1025, ends), zigzag(3000, ends)
		l := []api.Poly{long, open(0, 0, 64, 0), longer}
		checkOf(t, l, 0, one, l)
		checkOf(t, l, 0, one/2, lines(long.P[:513], points(0, 0, 32, 0), longer.P[:513]))
		checkOf(t, l, one/2, one, lines(long.P[512:1025], points(32, 0, 64, 0), longer.P[512:1025]))
		checkOf(t, l, 1, one, lines(append(points(16777216-far, 0), long.P[1:1025]...), points(0, 0, 64, 0), append(points(16777216-far, 0), longer.P[1:1025]...)))
		checkOf(t, l, one-64, one, lines(points(far, 0, -far, 0), points(63, 0, 64, 0), points(far, 0, -far, 0)))
	}
	// The last lengths that are not held.
	whole := zigzag(1023, false)
	if arc.Length(whole) != great-1<<30 {
		t.Fatalf("the line is %d long", arc.Length(whole))
	}
	checkOf(t, []api.Poly{whole}, one/2, one, lines(append(points(0, 0), whole.P[512:]...)))
}

func TestOfMany(t *testing.T) {
	long := api.Poly{Closed: true, P: make([]api.Point, 1<<19)}
	for i := range long.P {
		long.P[i].X = int64(i)
	}
	checkOf(t, []api.Poly{long}, 0, one, []api.Poly{long})
	// One way is 2^19 - 1 long, there and back twice that.
	checkOf(t, []api.Poly{long}, 0, one/2, lines(long.P))
	many := make([]api.Poly, 20000)
	var want []api.Poly
	for i := range many {
		y := int64(i)
		switch i % 4 {
		case 0:
			many[i] = closed(0, y, 64, y)
			want = append(want, open(32, y, 64, y, 32, y))
		case 1:
			many[i] = open(0, y, 64, y)
			want = append(want, open(16, y, 48, y))
		case 2:
			many[i] = closed(3, y)
		}
	}
	checkOf(t, many, one/4, 3*one/4, want)
	checkOf(t, many, 0, one, many)
	checkOf(t, many, one/2, one/2, nil)
}

// somePolys: polys with few points, some of them one behind the other, near each other or anywhere.
func somePolys(r *rand.Rand, pick func() int64) []api.Poly {
	l := make([]api.Poly, r.Intn(6))
	for i := range l {
		l[i].Closed = r.Intn(2) == 0
		small := r.Intn(3) > 0
		for range r.Intn(8) {
			switch n := len(l[i].P); {
			case n > 0 && r.Intn(4) == 0:
				l[i].P = append(l[i].P, l[i].P[n-1])
			case small:
				l[i].P = append(l[i].P, at(r.Int63n(60)-30, r.Int63n(60)-30))
			default:
				l[i].P = append(l[i].P, at(pick(), pick()))
			}
		}
	}
	return l
}

func TestOf(t *testing.T) {
	pick, r := picker(102), rand.New(rand.NewSource(102))
	for range 20000 {
		l, from, to := somePolys(r, pick), pick(), pick()
		if r.Intn(2) == 0 {
			from, to = r.Int63n(one+1), r.Int63n(one+1)
		}
		checkOf(t, l, from, to, wantOf(l, from, to))
	}
}

// From and to at each edge.
func TestOfRoundEdges(t *testing.T) {
	l := []api.Poly{open(0, 0, 3, 4, 3, 4, 8, 16), closed(0, 0, 300, 400, 300, 100), {Closed: true}, closed(1, 1, 2, 2), open(least, 0, most, 0), open(6, 6)}
	for _, from := range edges() {
		for _, to := range edges() {
			checkOf(t, l, from, to, wantOf(l, from, to))
		}
	}
}

// R4: nil and empty lists mean the same.
func TestOfNilPoints(t *testing.T) {
	for _, c := range append(wholes(), parts()...) {
		for _, ends := range []bool{false, true} {
			a := Of([]api.Poly{{Closed: ends}, open(0, 0, 64, 0)}, c[0], c[1])
			b := Of([]api.Poly{{Closed: ends, P: []api.Point{}}, open(0, 0, 64, 0)}, c[0], c[1])
			if !alike(a, b) {
				t.Errorf("R4: Of with nil %v, with an empty list %v", a, b)
			}
		}
	}
}

// R5: points behind a list's length are none of the poly's, polys behind it none of the list's.
func TestRoomBehind(t *testing.T) {
	p := points(0, 0, 64, 0, 64, 64, most, least)
	l := []api.Poly{{P: p[:2]}, {Closed: true, P: p[:3]}, {P: p[:1]}, {P: p[:0]}, {P: p[:2]}}
	want := []api.Poly{open(0, 0, 64, 0), closed(0, 0, 64, 0, 64, 64), open(0, 0), {}}
	if got := Of(l[:4], 0, one); !alike(got, want) {
		t.Errorf("R5: all of polys with room behind: %v, want %v", got, want)
	}
	if got, want := Of(l[:4], 0, one/2), lines(points(0, 0, 32, 0), points(0, 0, 64, 0, 64, 45)); !alike(got, want) {
		t.Errorf("R5: half of polys with room behind: %v, want %v", got, want)
	}
	if got := Of(l[2:4], 0, one/2); len(got) != 0 {
		t.Errorf("R5: half of points with room behind: %v", got)
	}
	if !slices.Equal(p, points(0, 0, 64, 0, 64, 64, most, least)) {
		t.Errorf("R2: Of changed the room behind a list: %v", p)
	}
}

// No two lists of one answer share memory, also where one list is handed in twice.
func TestOwnLists(t *testing.T) {
	p := points(0, 0, 64, 0, 64, 64, 0, 64)
	l := []api.Poly{{P: p}, {Closed: true, P: p}, {P: p[:2]}, {}, {P: p[1:]}, {P: p[:1]}, {Closed: true, P: p}}
	for _, c := range [][2]int64{{0, one}, {least, most}, {1, one}, {0, one / 2}, {one / 4, 3 * one / 4}} {
		want := wantOf(l, c[0], c[1])
		for i := range want {
			got := Of(l, c[0], c[1])
			spoil(got[i].P)
			got[i].P = append(got[i].P, at(8, 8))
			for j := range want {
				if j != i && !like(got[j], want[j]) {
					t.Errorf("R2: Of, %d to %d: writing into list %d changed list %d to %v", c[0], c[1], i, j, got[j])
				}
			}
		}
	}
	if !slices.Equal(p, points(0, 0, 64, 0, 64, 64, 0, 64)) {
		t.Errorf("R2: the points that were handed in became %v", p)
	}
}

// R2, R4: what was answered stands, whatever is written into what was handed in, and is answered again.
func TestAnswersStand(t *testing.T) {
	for _, c := range [][2]int64{{0, one}, {one, 0}, {one / 4, one / 2}, {one, 1}} {
		l := []api.Poly{closed(0, 0, 64, 0, 64, 64, 0, 64), open(3, 3, 3, 99), {}, open(1, 2)}
		want := wantOf(l, c[0], c[1])
		got, again := Of(l, c[0], c[1]), Of(l, c[0], c[1])
		spoilPolys(l)
		if !alike(got, want) || !alike(again, want) {
			t.Errorf("R2: Of, %d to %d, was kept: %v, %v, want %v", c[0], c[1], got, again, want)
		}
		spoilPolys(got)
		if !alike(again, want) {
			t.Errorf("R2: two answers of Of, %d to %d, share memory: %v", c[0], c[1], again)
		}
	}
}
