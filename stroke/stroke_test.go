package stroke

import (
	"math"
	"math/big"
	"math/rand"
	"slices"
	"testing"

	"mutoscope/api"
)

const (
	one   = int64(api.One)
	near  = int64(api.Near)
	far   = int64(api.Far)
	great = int64(api.Great)
	least = int64(math.MinInt64)
	most  = int64(math.MaxInt64)
)

func at(x, y int64) api.Point { return api.Point{X: x, Y: y} }

// points are the numbers in pairs.
func points(numbers ...int64) []api.Point {
	var out []api.Point
	for i := 0; i+1 < len(numbers); i += 2 {
		out = append(out, at(numbers[i], numbers[i+1]))
	}
	return out
}

func open(numbers ...int64) api.Poly { return api.Poly{P: points(numbers...)} }

func closed(numbers ...int64) api.Poly { return api.Poly{Closed: true, P: points(numbers...)} }

// ones are the numbers, each that many times One.
func ones(numbers ...int64) []int64 {
	var out []int64
	for _, n := range numbers {
		out = append(out, n*one)
	}
	return out
}

func backwards(l []api.Point) []api.Point {
	out := slices.Clone(l)
	slices.Reverse(out)
	return out
}

func wantPlace(a api.Point) api.Point {
	return at(min(max(a.X, -1<<29), 1<<29), min(max(a.Y, -1<<29), 1<<29))
}

// wantArea is in numbers without a size, each x by how far its neighbours' y lie from each other: the same sum, put in another order. Only its end goes round.
func wantArea(l []api.Point) int64 {
	sum := new(big.Int)
	for i := range l {
		ahead, a, behind := wantPlace(l[(i+len(l)-1)%len(l)]), wantPlace(l[i]), wantPlace(l[(i+1)%len(l)])
		sum.Add(sum, new(big.Int).Mul(big.NewInt(a.X), big.NewInt(behind.Y-ahead.Y)))
	}
	size := new(big.Int).Lsh(big.NewInt(1), 64)
	if sum.Mod(sum, size); sum.Bit(63) == 1 {
		sum.Sub(sum, size)
	}
	return sum.Int64()
}

func wantTurned(l []api.Point) []api.Point {
	if wantArea(l) < 0 {
		return backwards(l)
	}
	return l
}

// guard hands l out with room behind it; changed says whether any of it, the room too, is not as it was.
func guard(l []api.Point) (given []api.Point, changed func() bool) {
	whole := append(slices.Clone(l), at(least, 77), at(640*one, most), at(0, 0), at(5, 5), at(-far, far))
	was := slices.Clone(whole)
	return whole[:len(l)], func() bool { return !slices.Equal(whole, was) }
}

// fill writes into all of an answer, its spare room too.
func fill(l []api.Point, a api.Point) {
	whole := l[:cap(l)]
	for i := range whole {
		whole[i] = a
	}
}

func filled(l []api.Point, a api.Point) bool {
	return !slices.ContainsFunc(l[:cap(l)], func(b api.Point) bool { return a != b })
}

// brief keeps what a failing test says short.
func brief(l []api.Point) []api.Point { return l[:min(len(l), 12)] }

// edges: numbers round which a call may change its mind, both signs, and those beside them; and the ends of int64.
func edges() []int64 {
	out := []int64{0, least, least + 1, most, most - 1}
	for _, n := range []int64{1, 2, 7, one / 2, one, 3 * one, near, 2 * near, far - near, far, 2 * far, 1 << 31, 1 << 32, great, 1 << 53, 1 << 62} {
		for _, e := range []int64{n - 1, n, n + 1} {
			out = append(out, e, -e)
		}
	}
	return out
}

// rounds goes n times round all places, so that Area is 2^61 times n.
func rounds(n int) []api.Point {
	return slices.Repeat(points(far, far, -far, far, -far, -far, far, -far), n)
}

// checkArea looks whether Turned fits too, whether what is handed in stays as it was, and whether the answer is memory of its own.
func checkArea(t *testing.T, l []api.Point, want int64) {
	t.Helper()
	given, changed := guard(l)
	if got := Area(given); got != want {
		t.Errorf("P12.1: Area(%v): %d, want %d", brief(l), got, want)
	}
	if changed() {
		t.Errorf("R2: Area changed %v to %v", brief(l), brief(given))
	}
	turned := slices.Clone(l)
	if want < 0 {
		turned = backwards(l)
	}
	checkTurned(t, l, turned)
}

func checkTurned(t *testing.T, l, want []api.Point) {
	t.Helper()
	given, changed := guard(l)
	got := Turned(given)
	if !slices.Equal(got, want) {
		t.Errorf("P12.1: Turned(%v): %v, want %v", brief(l), brief(got), brief(want))
	}
	if changed() {
		t.Errorf("R2: Turned changed %v to %v", brief(l), brief(given))
	}
	if fill(got, at(-123456789, 987654321)); changed() {
		t.Errorf("R2: writing into Turned(%v) changed what was handed in to %v", brief(l), brief(given))
	}
}

// Of no place, one or two there is nothing within, wherever they lie.
func TestAreaOfFew(t *testing.T) {
	room := points(1, 2, 3, 4, 9, 7)
	for _, l := range [][]api.Point{nil, {}, room[:0], room[:1], room[:2]} {
		checkArea(t, l, 0)
		if got := Area(l); got != 0 {
			t.Errorf("P12.1: Area(%v): %d", l, got)
		}
		if got := Turned(l); !slices.Equal(got, l) {
			t.Errorf("P12.1: Turned(%v): %v", l, got)
		}
	}
	for _, a := range edges() {
		for _, b := range edges() {
			checkArea(t, points(a, b), 0)
			checkArea(t, points(a, b, b, a), 0)
			checkArea(t, points(a, b, a, b), 0)
			checkArea(t, points(a, b, 7, -3), 0)
		}
	}
}

func TestAreaByHand(t *testing.T) {
	for _, c := range []struct {
		l    []api.Point
		want int64
	}{
		// A square, from each of its corners, and backwards.
		{points(0, 0, 10, 0, 10, 10, 0, 10), 200}, {points(10, 0, 10, 10, 0, 10, 0, 0), 200}, {points(10, 10, 0, 10, 0, 0, 10, 0), 200}, {points(0, 10, 0, 0, 10, 0, 10, 10), 200},
		{points(0, 0, 0, 10, 10, 10, 10, 0), -200}, {points(0, 10, 10, 10, 10, 0, 0, 0), -200}, {points(10, 10, 10, 0, 0, 0, 0, 10), -200}, {points(10, 0, 0, 0, 0, 10, 10, 10), -200},
		// Three places, so little within that it is the least of all, and none, on one line.
		{points(0, 0, 1, 0, 0, 1), 1}, {points(0, 0, 0, 1, 1, 0), -1}, {points(5, 5, 6, 5, 5, 6), 1}, {points(-5, -5, -5, -4, -4, -5), -1}, {points(0, 0, 3, 4, 5, 0), -20}, {points(0, 0, 5, 0, 3, 4), 20},
		{points(0, 0, 4, 4, 9, 9), 0}, {points(9, 9, 0, 0, 4, 4), 0}, {points(-3, 1, 0, 1, 8, 1), 0},
		// Places that are one behind the other.
		{points(0, 0, 0, 0, 10, 0, 10, 10, 0, 10), 200}, {points(0, 0, 10, 0, 10, 0, 10, 10, 10, 10, 0, 10), 200}, {points(0, 0, 10, 0, 10, 10, 0, 10, 0, 10, 0, 0), 200}, {points(0, 10, 10, 10, 10, 10, 10, 0, 0, 0, 0, 0), -200}, {points(3, 4, 3, 4, 3, 4), 0},
		// A knot: what it goes round backwards counts against the rest.
		{points(0, 0, 10, 10, 10, 0, 0, 10), 0}, {points(0, 0, 2, 0, 2, 2, 0, 2, 0, -1, -1, -1, -1, 0), 6}, {points(0, 0, 6, 0, 6, 6, 0, 6, 0, 0, 0, 1, 1, 1, 1, 0), 70},
		// Twice round is twice as much.
		{slices.Repeat(points(0, 0, 10, 0, 10, 10, 0, 10), 2), 400}, {slices.Repeat(points(0, 10, 10, 10, 10, 0, 0, 0), 3), -600},
		// A star of four corners about 0, and one with a corner within.
		{points(5, 0, 0, 5, -5, 0, 0, -5), 100}, {points(0, 0, 8, 0, 8, 8, 6, 2), 32},
	} {
		checkArea(t, c.l, c.want)
	}
}

// Each X and Y is held on its own, and first: what lies past bounds is reckoned as if it lay on them, and told as it was given.
func TestAreaHolds(t *testing.T) {
	whole := 8 * far * far
	for _, l := range [][]api.Point{
		points(-far, -far, far, -far, far, far, -far, far),
		points(-far-1, -far-1, far+1, -far-1, far+1, far+1, -far-1, far+1),
		points(least, least, most, least, most, most, least, most),
		points(-great, -far, 2*far, -great, great+1, far+7, -far, 1<<62),
		points(-far, least, far, -1<<32, 1<<32, far, -1<<33, 1<<33),
	} {
		checkArea(t, l, whole)
		checkArea(t, backwards(l), -whole)
	}
	// Next to the bounds each step counts; past them none does.
	for _, c := range []struct{ x, want int64 }{{far - 2, far - 2}, {far - 1, far - 1}, {far, far}, {far + 1, far}, {far + 2, far}, {1<<32 + 1, far}, {most, far}, {-far + 1, 1 - far}, {-far, -far}, {-far - 1, -far}, {-1 << 32, -far}, {least, -far}} {
		checkArea(t, points(0, 0, c.x, 0, 0, 1), c.want)
		checkArea(t, points(0, 0, 1, 0, 0, c.x), c.want)
		checkArea(t, points(c.x, 0, 0, 3, 0, 0), 3*c.want)
	}
	// Three that fall together where they are held, or on one line, though they go round as they stand: as they were given, both ways.
	for _, l := range [][]api.Point{points(far, far, 2*far, far, 2*far, 2*far), points(0, 0, 2*far, far, far, 2*far), points(0, far, far, far+1, far/2, 3*far)} {
		checkArea(t, l, 0)
		checkArea(t, backwards(l), 0)
	}
	// Held they go round the other way than they stand.
	l := points(0, 0, far, far-1, 2*far+9, 2*far)
	checkArea(t, l, far)
	checkTurned(t, backwards(l), l)
}

// From four rounds on the sum leaves 64 bits, comes in again from below, and Turned goes by what it is then.
func TestAreaGoesRound(t *testing.T) {
	unit := int64(1) << 61
	for _, c := range []struct {
		n    int
		want int64
	}{{1, unit}, {2, 2 * unit}, {3, 3 * unit}, {4, least}, {5, -3 * unit}, {6, -2 * unit}, {7, -unit}, {8, 0}, {9, unit}, {11, 3 * unit}, {12, least}, {16, 0}, {1 << 16, 0}, {1<<16 + 4, least}, {1<<16 + 7, -unit}} {
		checkArea(t, rounds(c.n), c.want)
		// The least of all int64 is its own opposite.
		checkArea(t, backwards(rounds(c.n)), -c.want)
	}
	// One more than goes into 64 bits, two more, and just as much.
	whole := append(rounds(4), at(far, far))
	for _, c := range []struct {
		more []api.Point
		want int64
	}{{nil, least}, {points(far-1, far, far, far-1), least + 1}, {points(far, far-1, far-1, far), most}} {
		checkArea(t, append(slices.Clone(whole), c.more...), c.want)
	}
}

func TestArea(t *testing.T) {
	r, list := rand.New(rand.NewSource(121)), edges()
	var signs [3]int
	for range 30000 {
		l := somePoly(r, list).P
		want := wantArea(l)
		signs[max(min(want, 1), -1)+1]++
		checkArea(t, l, want)
		checkTurned(t, l, wantTurned(l))
		if t.Failed() {
			t.FailNow()
		}
	}
	if slices.Min(signs[:]) < 3000 {
		t.Errorf("of 30000 lists %v are below 0, 0, above 0: too few of one kind", signs)
	}
}

// Wherever it begins Area is the same, and backwards it is the opposite; what is Turned does not turn again.
func TestAreaAround(t *testing.T) {
	r, list := rand.New(rand.NewSource(122)), edges()
	for range 5000 {
		l := somePoly(r, list).P
		if len(l) == 0 {
			continue
		}
		n := r.Intn(len(l))
		if a, b := Area(l), Area(append(slices.Clone(l[n:]), l[:n]...)); a != b {
			t.Fatalf("P12.1: Area(%v): %d, from place %d on %d", l, a, n, b)
		}
		if a, b := Area(l), Area(backwards(l)); a != -b {
			t.Fatalf("P12.1: Area(%v): %d, backwards %d", l, a, b)
		}
		if got := Turned(l); !slices.Equal(Turned(got), got) {
			t.Fatalf("P12.1: Turned(%v): %v, which turns again", l, got)
		}
	}
}

func TestAreaOfMany(t *testing.T) {
	l := make([]api.Point, 1<<21)
	for i := range l {
		l[i] = at(int64(i), int64(i%2))
	}
	checkArea(t, l, wantArea(l))
	checkArea(t, backwards(l), wantArea(backwards(l)))
	checkArea(t, make([]api.Point, 1<<21), 0)
}

// R5: places behind a list's length are none of it.
func TestAreaRoomBehind(t *testing.T) {
	l := points(0, 0, 10, 0, 10, 10, 0, 10, most, least)
	for n, want := range []int64{0, 0, 0, 100, 200} {
		if got := Area(l[:n]); got != want {
			t.Errorf("R5: Area of %d places of more: %d, want %d", n, got, want)
		}
		back := append(backwards(l[:n]), at(most, least), at(least, 7))
		if got := Turned(back[:n]); !slices.Equal(got, wantTurned(back[:n])) {
			t.Errorf("R5: Turned of %d places of more: %v", n, got)
		}
	}
	if !slices.Equal(l, points(0, 0, 10, 0, 10, 10, 0, 10, most, least)) {
		t.Errorf("R2: what was handed in became %v", l)
	}
}

// R2, R4: what was answered stands, whatever is written into what was handed in, and is answered again.
func TestTurnedStands(t *testing.T) {
	for _, want := range [][]api.Point{points(0, 0, 10, 0, 10, 10), points(0, 0, 5, 5), points(7, 8)} {
		for _, l := range [][]api.Point{slices.Clone(want), wantTurned(backwards(want))} {
			was := slices.Clone(l)
			got, again := Turned(l), Turned(l)
			fill(l, at(-123456789, 987654321))
			if !slices.Equal(got, wantTurned(was)) || !slices.Equal(again, wantTurned(was)) {
				t.Errorf("R2: Turned(%v) was kept: %v, %v", was, got, again)
			}
			if fill(got, at(1, 1)); !slices.Equal(again, wantTurned(was)) {
				t.Errorf("R2: two answers of Turned(%v) share memory: %v", was, again)
			}
		}
	}
}
