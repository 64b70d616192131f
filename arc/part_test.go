package arc

import (
	"math/rand"
	"slices"
	"testing"

	"mutoscope/api"
)

// checkPart looks whether p stays as it was too, also when the answer is written into.
func checkPart(t *testing.T, p api.Poly, from, to int64, want []api.Point) {
	t.Helper()
	list, changed := guard(p.P)
	got := Part(api.Poly{Closed: p.Closed, P: list}, from, to)
	if !slices.Equal(got.P, want) {
		t.Errorf("P9.2: Part(%v, %d, %d): %v, want %v", p, from, to, got.P, want)
	}
	if got.Closed {
		t.Errorf("P9.2: Part(%v, %d, %d) is closed", p, from, to)
	}
	spoil(got.P)
	if changed() {
		t.Errorf("R2: Part changed %v to %v", p, list)
	}
}

func TestPartOfNoSides(t *testing.T) {
	behind := points(3, 4, 30, 40, 300, 400)
	for _, ends := range []bool{false, true} {
		for _, l := range [][]api.Point{nil, {}, behind[:0], behind[:1], points(0, 0), points(5, -7), points(most, least)} {
			for _, from := range []int64{least, -5, 0, 1, most} {
				for _, to := range []int64{least, -5, 0, 1, most} {
					checkPart(t, api.Poly{Closed: ends, P: l}, from, to, nil)
				}
			}
		}
	}
}

func TestPartOfOneSide(t *testing.T) {
	for _, c := range []struct {
		from, to int64
		want     []api.Point
	}{
		// Both ends, and more.
		{0, 64, points(0, 100, 64, 100)}, {-1, 64, points(0, 100, 64, 100)}, {0, 65, points(0, 100, 64, 100)}, {-9, 99, points(0, 100, 64, 100)},
		{least, most, points(0, 100, 64, 100)}, {-great, great, points(0, 100, 64, 100)},
		// Of it.
		{0, 1, points(0, 100, 1, 100)}, {-5, 1, points(0, 100, 1, 100)}, {1, 2, points(1, 100, 2, 100)}, {16, 48, points(16, 100, 48, 100)},
		{1, 63, points(1, 100, 63, 100)}, {63, 64, points(63, 100, 64, 100)}, {63, 65, points(63, 100, 64, 100)}, {32, most, points(32, 100, 64, 100)}, {least, 32, points(0, 100, 32, 100)},
		// Ahead of it and behind it.
		{-1, 0, nil}, {-5, -1, nil}, {least, 0, nil}, {least, -1, nil}, {64, 65, nil}, {65, 66, nil}, {64, most, nil}, {great, most, nil},
		// Not below.
		{0, 0, nil}, {5, 5, nil}, {64, 64, nil}, {6, 5, nil}, {64, 0, nil}, {0, -1, nil}, {most, least, nil}, {least, least, nil}, {most, most, nil},
		// Held they are one.
		{least, least + 1, nil}, {-great - 1, -great, nil}, {great, great + 1, nil}, {great + 1, most, nil},
	} {
		checkPart(t, open(0, 100, 64, 100), c.from, c.to, c.want)
	}
	// Each share is rounded down, X and Y for itself.
	for _, c := range []struct {
		from, to int64
		want     []api.Point
	}{
		{0, 500, points(0, 0, 300, -400)}, {1, 2, points(0, -1, 1, -2)}, {125, 251, points(75, -100, 150, -201)}, {498, 499, points(298, -399, 299, -400)}, {499, 500, points(299, -400, 300, -400)},
	} {
		checkPart(t, open(0, 0, 300, -400), c.from, c.to, c.want)
	}
	checkPart(t, open(0, 0, 1, 1), 0, 1, points(0, 0, 1, 1))
	checkPart(t, open(0, 0, 1, 1), 1, 2, nil)
}

func TestPartOfSeveral(t *testing.T) {
	for _, c := range []struct {
		from, to     int64
		open, closed []api.Point
	}{
		// All of it, and more.
		{0, 192, points(0, 0, 64, 0, 64, 64, 0, 64), points(0, 0, 64, 0, 64, 64, 0, 64)},
		{0, 256, points(0, 0, 64, 0, 64, 64, 0, 64), points(0, 0, 64, 0, 64, 64, 0, 64, 0, 0)},
		{-1, 257, points(0, 0, 64, 0, 64, 64, 0, 64), points(0, 0, 64, 0, 64, 64, 0, 64, 0, 0)},
		{least, most, points(0, 0, 64, 0, 64, 64, 0, 64), points(0, 0, 64, 0, 64, 64, 0, 64, 0, 0)},
		// At a corner, and next to it.
		{0, 63, points(0, 0, 63, 0), points(0, 0, 63, 0)},
		{0, 64, points(0, 0, 64, 0), points(0, 0, 64, 0)},
		{0, 65, points(0, 0, 64, 0, 64, 1), points(0, 0, 64, 0, 64, 1)},
		{63, 64, points(63, 0, 64, 0), points(63, 0, 64, 0)},
		{63, 65, points(63, 0, 64, 0, 64, 1), points(63, 0, 64, 0, 64, 1)},
		{64, 65, points(64, 0, 64, 1), points(64, 0, 64, 1)},
		{65, 66, points(64, 1, 64, 2), points(64, 1, 64, 2)},
		{64, 128, points(64, 0, 64, 64), points(64, 0, 64, 64)},
		{65, 127, points(64, 1, 64, 63), points(64, 1, 64, 63)},
		{63, 129, points(63, 0, 64, 0, 64, 64, 63, 64), points(63, 0, 64, 0, 64, 64, 63, 64)},
		{64, 129, points(64, 0, 64, 64, 63, 64), points(64, 0, 64, 64, 63, 64)},
		// Between two, and on one side.
		{32, 96, points(32, 0, 64, 0, 64, 32), points(32, 0, 64, 0, 64, 32)},
		{16, 144, points(16, 0, 64, 0, 64, 64, 48, 64), points(16, 0, 64, 0, 64, 64, 48, 64)},
		{80, 96, points(64, 16, 64, 32), points(64, 16, 64, 32)},
		{140, 150, points(52, 64, 42, 64), points(52, 64, 42, 64)},
		// Ahead of the line.
		{-1, 1, points(0, 0, 1, 0), points(0, 0, 1, 0)},
		{-64, 64, points(0, 0, 64, 0), points(0, 0, 64, 0)},
		{least, 1, points(0, 0, 1, 0), points(0, 0, 1, 0)},
		{-64, 0, nil, nil}, {-64, -1, nil, nil}, {least, 0, nil, nil},
		// The last side of an open one, and what a closed one has behind it.
		{128, 192, points(64, 64, 0, 64), points(64, 64, 0, 64)},
		{191, 192, points(1, 64, 0, 64), points(1, 64, 0, 64)},
		{191, 193, points(1, 64, 0, 64), points(1, 64, 0, 64, 0, 63)},
		{192, 193, nil, points(0, 64, 0, 63)},
		{192, 256, nil, points(0, 64, 0, 0)},
		{224, most, nil, points(0, 32, 0, 0)},
		{254, 255, nil, points(0, 2, 0, 1)},
		{255, 256, nil, points(0, 1, 0, 0)},
		{255, 257, nil, points(0, 1, 0, 0)},
		{256, 257, nil, nil}, {256, most, nil, nil}, {999, 9999, nil, nil},
		// Not below.
		{100, 100, nil, nil}, {64, 64, nil, nil}, {101, 100, nil, nil}, {192, 0, nil, nil}, {256, 192, nil, nil}, {most, least, nil, nil},
	} {
		checkPart(t, open(0, 0, 64, 0, 64, 64, 0, 64), c.from, c.to, c.open)
		checkPart(t, closed(0, 0, 64, 0, 64, 64, 0, 64), c.from, c.to, c.closed)
	}
}

func TestPartOfTwoClosed(t *testing.T) {
	p := closed(0, 8, 64, 8)
	checkPart(t, p, 0, 128, points(0, 8, 64, 8, 0, 8))
	checkPart(t, p, 32, 96, points(32, 8, 64, 8, 32, 8))
	checkPart(t, p, 64, 65, points(64, 8, 63, 8))
	checkPart(t, p, 127, 128, points(1, 8, 0, 8))
	checkPart(t, p, 128, 129, nil)
}

// Sides of length 0: at the beginning, in the midst, at the end.
func TestPartPassesBy(t *testing.T) {
	for i, p := range []api.Poly{
		open(0, 0, 64, 0, 64, 64),
		open(0, 0, 0, 0, 64, 0, 64, 64),
		open(0, 0, 0, 0, 0, 0, 64, 0, 64, 64),
		open(0, 0, 64, 0, 64, 0, 64, 64),
		open(0, 0, 64, 0, 64, 0, 64, 0, 64, 0, 64, 64),
		open(0, 0, 64, 0, 64, 64, 64, 64),
		open(0, 0, 0, 0, 64, 0, 64, 0, 64, 64, 64, 64, 64, 64),
	} {
		for _, c := range []struct {
			from, to int64
			want     []api.Point
		}{
			{0, 128, points(0, 0, 64, 0, 64, 64)}, {least, most, points(0, 0, 64, 0, 64, 64)}, {32, 96, points(32, 0, 64, 0, 64, 32)},
			{0, 64, points(0, 0, 64, 0)}, {64, 128, points(64, 0, 64, 64)}, {0, 1, points(0, 0, 1, 0)}, {63, 65, points(63, 0, 64, 0, 64, 1)}, {127, 999, points(64, 63, 64, 64)},
			{-1, 0, nil}, {128, 999, nil},
		} {
			checkPart(t, p, c.from, c.to, c.want)
		}
		if t.Failed() {
			t.Fatalf("P9.2: Part, poly %d", i)
		}
	}
	for _, l := range [][]api.Point{points(5, 6, 5, 6), points(5, 6, 5, 6, 5, 6, 5, 6), points(far, least, most, -far)} {
		for _, ends := range []bool{false, true} {
			checkPart(t, api.Poly{Closed: ends, P: l}, 0, 1, nil)
			checkPart(t, api.Poly{Closed: ends, P: l}, -1, 1, nil)
			checkPart(t, api.Poly{Closed: ends, P: l}, least, most, nil)
		}
	}
	// The last side of a closed one, where it ends as it began.
	checkPart(t, closed(0, 0, 64, 0, 0, 0), 0, most, points(0, 0, 64, 0, 0, 0))
	checkPart(t, closed(0, 0, 64, 0, 0, 0), 128, most, nil)
	// So little of a side that both ends fall together: given all the same.
	checkPart(t, open(0, 0, 100, 0, 100, 100), 100, 101, points(100, 0, 100, 0))
	checkPart(t, open(0, 0, 100, 0, 100, 100), 99, 101, points(98, 0, 100, 0, 100, 0))
}

func TestPartPlaces(t *testing.T) {
	whole := points(-far, 5, far, 5, far, far)
	for _, p := range []api.Poly{
		open(-far, 5, far, 5, far, far),
		open(-far-1, 5, far+1, 5, far+1, far+1),
		open(least, 5, most, 5, most, most),
		open(-great, 5, great, 5, great+1, great-1),
		// What lies past bounds falls together on them.
		open(least, 5, -far-7, 5, most, 5, great, 5, far, far, far+1, far+2),
	} {
		length := 3*far - 5
		checkPart(t, p, 0, length, whole)
		checkPart(t, p, least, most, whole)
		checkPart(t, p, far, 2*far, points(0, 5, far, 5))
		checkPart(t, p, 2*far, most, points(far, 5, far, far))
		checkPart(t, p, far/2, far, points(-far/2, 5, 0, 5))
		checkPart(t, p, length, most, nil)
	}
	checkPart(t, closed(0, least, 0, most, most, most), 3*far, most, points(far, far, 0, -far))
}

// So long a line that s is held: what lies behind Great is none of any part.
func TestPartOfLongLine(t *testing.T) {
	side := 2 * far
	p := zigzag(2000, 0, false)
	got := Part(p, 0, most)
	if !slices.Equal(got.P, p.P[:1025]) {
		t.Errorf("P9.2: Part of a long line: %d points, want 1025", len(got.P))
	}
	checkPart(t, p, great-side/2, great, points(0, 0, -far, 0))
	checkPart(t, p, great-side, most, points(far, 0, -far, 0))
	checkPart(t, p, great-side-side/2, great-side/2, points(0, 0, far, 0, 0, 0))
	checkPart(t, p, great, great+1, nil)
	checkPart(t, p, great, most, nil)
	checkPart(t, p, great+side, great+2*side, nil)
	// Here Great lies in the midst of a side, the one behind 724 others.
	l := int64(1518500249)
	p = zigzag(2000, far, false)
	got = Part(p, least, most)
	if want := append(slices.Clone(p.P[:725]), at(-453836800, -453836800)); !slices.Equal(got.P, want) {
		t.Errorf("P9.2: Part of a long line past Great: %d points, want 726", len(got.P))
	}
	checkPart(t, p, 724*l, great, points(-far, -far, -453836800, -453836800))
	checkPart(t, p, 724*l-1, most, points(-536854528, -536854528, -far, -far, -453836800, -453836800))
	checkPart(t, p, 724*l-1, 724*l, points(-536854528, -536854528, -far, -far))
	checkPart(t, p, great-1, great, points(-453836800, -453836800, -453836800, -453836800))
	checkPart(t, p, great, most, nil)
	p.Closed = true
	checkPart(t, p, 724*l, most, points(-far, -far, -453836800, -453836800))
}

func TestPartOfMany(t *testing.T) {
	p := api.Poly{P: make([]api.Point, 1<<20)}
	for i := range p.P {
		p.P[i].X = int64(i)
	}
	if got := Part(p, least, most); !slices.Equal(got.P, p.P) {
		t.Errorf("P9.2: Part of %d points: %d", len(p.P), len(got.P))
	}
	if got := Part(p, 500, 600); !slices.Equal(got.P, p.P[500:601]) {
		t.Errorf("P9.2: Part of %d points: %v", len(p.P), got.P)
	}
}

func TestPart(t *testing.T) {
	pick, r := picker(94), rand.New(rand.NewSource(94))
	for range 20000 {
		p := api.Poly{Closed: r.Intn(2) == 0}
		small := r.Intn(2) == 0
		for range r.Intn(10) {
			switch n := len(p.P); {
			case n > 0 && r.Intn(4) == 0:
				p.P = append(p.P, p.P[n-1])
			case small:
				p.P = append(p.P, at(r.Int63n(60)-30, r.Int63n(60)-30))
			default:
				p.P = append(p.P, at(pick(), pick()))
			}
		}
		span := wantLength(p) + 20
		from, to := r.Int63n(span+20)-20, r.Int63n(span+20)-20
		if r.Intn(2) == 0 {
			from, to = min(from, to), max(from, to)
		}
		if r.Intn(8) == 0 {
			from = pick()
		}
		if r.Intn(8) == 0 {
			to = pick()
		}
		checkPart(t, p, from, to, wantPart(p, from, to))
		if t.Failed() {
			t.FailNow()
		}
	}
}

// From and to at each number round each corner.
func TestPartRoundCorners(t *testing.T) {
	for _, p := range []api.Poly{
		open(0, 0, 3, 4, 3, 4, 8, 16, 8, 15), closed(0, 0, 3, 4, 3, 4, 8, 16, 8, 15), closed(1, 1, 1, 1, 5, 4), open(-1, -1, -2, -2, -4, -1),
	} {
		for from := int64(-3); from < 45; from++ {
			for to := int64(-3); to < 45; to++ {
				checkPart(t, p, from, to, wantPart(p, from, to))
			}
		}
	}
}

// R5: points behind a list's length are none of the poly's.
func TestRoomBehind(t *testing.T) {
	l := points(0, 0, 64, 0, 64, 64, most, least)
	for _, c := range []struct {
		n            int
		open, closed int64
		want         []api.Point
	}{
		{0, 0, 0, nil}, {1, 0, 0, nil}, {2, 64, 128, points(0, 0, 64, 0, 0, 0)}, {3, 128, 218, points(0, 0, 64, 0, 64, 64, 0, 0)},
	} {
		p := api.Poly{P: l[:c.n]}
		checkLength(t, p, max(c.n-1, 0), c.open)
		p.Closed = true
		if got := Length(p); got != c.closed {
			t.Errorf("R5: Length of %d points of more: %d", c.n, got)
		}
		if got := Part(p, least, most); !slices.Equal(got.P, c.want) {
			t.Errorf("R5: Part of %d points of more: %v", c.n, got.P)
		}
	}
}

// R2, R4: what was answered stands, whatever is written into what was handed in, and is answered again.
func TestAnswersStand(t *testing.T) {
	p := closed(0, 0, 64, 0, 64, 64, 0, 64)
	want := points(32, 0, 64, 0, 64, 64, 0, 64, 0, 32)
	got, again := Part(p, 32, 224), Part(p, 32, 224)
	spoil(p.P)
	if !slices.Equal(got.P, want) || !slices.Equal(again.P, want) {
		t.Errorf("R2: Part was kept: %v, %v", got, again)
	}
	spoil(got.P)
	if !slices.Equal(again.P, want) {
		t.Errorf("R2: two answers share memory: %v", again)
	}
	// A whole line is new memory too.
	p = open(0, 0, 64, 0)
	got = Part(p, least, most)
	spoil(got.P)
	if !slices.Equal(p.P, points(0, 0, 64, 0)) {
		t.Errorf("R2: Part shares memory with what was handed in: %v", p)
	}
}
