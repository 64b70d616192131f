package dash

import (
	"math"
	"math/rand"
	"slices"
	"testing"

	"mutoscope/api"
	"mutoscope/arc"
)

const (
	one   = int64(api.One)
	near  = int64(api.Near)
	far   = int64(api.Far)
	great = int64(api.Great)
	least = int64(math.MinInt64)
	most  = int64(math.MaxInt64)
)

func at(x, y int64) api.Point { return api.Point{X: x, Y: y} }

// points are the numbers in pairs.
func points(numbers ...int64) []api.Point {
	var out []api.Point
	for i := 0; i+1 < len(numbers); i += 2 {
		out = append(out, at(numbers[i], numbers[i+1]))
	}
	return out
}

func open(numbers ...int64) api.Poly { return api.Poly{P: points(numbers...)} }

func closed(numbers ...int64) api.Poly { return api.Poly{Closed: true, P: points(numbers...)} }

// ones are the numbers, each that many times One.
func ones(numbers ...int64) []int64 {
	var out []int64
	for _, n := range numbers {
		out = append(out, n*one)
	}
	return out
}

// The reckoning below is the chapter's; how long a poly is, and a part of it, arc's own tests ask.

func wantRight(l []int64) bool {
	wrong := slices.ContainsFunc(l, func(n int64) bool { return n < 1<<16 || n > 1<<26 })
	return !wrong && len(l) <= 8
}

// marks are where a dash or a gap begins or ends, up to the end of the 64th dash.
func marks(l []int64) []int64 {
	out := []int64{0}
	for len(out) < 2*64 {
		n := l[0]
		l = append(slices.Clone(l[1:]), n)
		out = append(out, out[len(out)-1]+n)
	}
	return out
}

func wantOf(p api.Poly, l []int64) []api.Poly {
	if len(l) == 0 || !wantRight(l) {
		return []api.Poly{{Closed: p.Closed, P: slices.Clone(p.P)}}
	}
	var out []api.Poly
	for ends := range slices.Chunk(marks(l), 2) {
		if ends[0] >= arc.Length(p) {
			break
		}
		if x := arc.Part(p, ends[0], ends[1]); len(x.P) > 1 {
			out = append(out, api.Poly{P: x.P})
		}
	}
	return out
}

func like(a, b api.Poly) bool { return a.Closed == b.Closed && slices.Equal(a.P, b.P) }

func alike(a, b []api.Poly) bool { return slices.EqualFunc(a, b, like) }

// guard hands l out with room behind it; changed says whether any of it, the room too, is not as it was.
func guard[T comparable](l []T, behind ...T) (given []T, changed func() bool) {
	whole := append(slices.Clone(l), behind...)
	was := slices.Clone(whole)
	return whole[:len(l)], func() bool { return !slices.Equal(whole, was) }
}

func guardPoly(p api.Poly) (api.Poly, func() bool) {
	given, changed := guard(p.P, at(least, 77), at(640*one, most), at(0, 0), at(5, 5))
	return api.Poly{Closed: p.Closed, P: given}, changed
}

// guardNumbers has room behind whose numbers would be taken for right ones.
func guardNumbers(l []int64) ([]int64, func() bool) { return guard(l, 3*one, one, near, 0, least) }

// shared writes into all of an answer, its spare room too, and says whether a list of it was written into through another one.
func shared(l []api.Poly) bool {
	for i, p := range l {
		fill(p.P, at(int64(i), -int64(i)-1))
	}
	for i, p := range l {
		if !filled(p.P, at(int64(i), -int64(i)-1)) {
			return true
		}
	}
	whole := l[:cap(l)]
	for i := range whole {
		whole[i] = open(9, 9)
	}
	return false
}

func fill(l []api.Point, a api.Point) {
	whole := l[:cap(l)]
	for i := range whole {
		whole[i] = a
	}
}

func filled(l []api.Point, a api.Point) bool {
	return !slices.ContainsFunc(l[:cap(l)], func(b api.Point) bool { return a != b })
}

// edges: numbers round which a call may change its mind, both signs, and those beside them; and the ends of int64.
func edges() []int64 {
	out := []int64{0, least, least + 1, most, most - 1}
	for _, n := range []int64{1, 64, one / 2, one, 2 * one, near / 2, near, 2 * near, far, 1 << 32, great, 1 << 53, 1 << 62} {
		for _, e := range []int64{n - 1, n, n + 1} {
			out = append(out, e, -e)
		}
	}
	return out
}

// wrongs: numbers that no dash and no gap may be.
func wrongs() []int64 {
	return []int64{one - 1, one - 2, one / 2, 2, 1, 0, -1, -one, -one - 1, -near, -great, least + 1, least, near + 1, near + 2, near + one, 2 * near, far, great, great + 1, 1<<32 + one, most - 1, most}
}

// rights: numbers that each may be.
func rights() []int64 {
	return []int64{one, one + 1, one + 2, 2 * one, 3*one + 7, 100 * one, near / 2, near - one, near - 2, near - 1, near}
}

// badLists: numbers that are not Right: too many of them, or one of them wrong.
func badLists() [][]int64 {
	out := [][]int64{slices.Repeat(ones(1), 9), slices.Repeat(ones(2), 10), slices.Repeat([]int64{near}, 9), slices.Repeat(ones(1), 1000), slices.Repeat([]int64{0}, 9)}
	for _, n := range wrongs() {
		out = append(out, []int64{n}, []int64{n, one}, []int64{2 * one, n}, []int64{n, n}, []int64{one, n, 2 * one}, append(slices.Repeat(ones(3), 7), n))
	}
	return out
}

func checkRight(t *testing.T, l []int64, want bool) {
	t.Helper()
	given, changed := guardNumbers(l)
	if Right(given) != want {
		t.Errorf("P11.1: Right(%v): %v", l, !want)
	}
	if changed() {
		t.Errorf("R2: Right changed %v to %v", l, given)
	}
	// The room behind it is not asked, whatever is there.
	for _, n := range []int64{one, 0, most} {
		if given, _ := guard(l, n, n, n); Right(given) != want {
			t.Errorf("R5: Right(%v) with %d behind it: %v", l, n, !want)
		}
	}
}

func TestRightNone(t *testing.T) {
	checkRight(t, nil, true)
	checkRight(t, []int64{}, true)
	if !Right(nil) || !Right([]int64{}) || !Right(make([]int64, 0, 9)) {
		t.Error("P11.1: Right of no numbers: false")
	}
}

func TestRightCount(t *testing.T) {
	if api.MaxDash != 8 || one != 65536 || near != 67108864 {
		t.Fatal("the numbers of the document are others")
	}
	for n := 1; n <= 40; n++ {
		for _, a := range rights() {
			checkRight(t, slices.Repeat([]int64{a}, n), n <= 8)
		}
		for _, a := range wrongs() {
			checkRight(t, slices.Repeat([]int64{a}, n), false)
		}
	}
	for _, n := range []int{256, 257, 264, 65536, 65537, 1 << 20} {
		checkRight(t, slices.Repeat(ones(1), n), false)
	}
}

// Each number counts, at each place of each list.
func TestRightPlaces(t *testing.T) {
	for n := 1; n <= 8; n++ {
		for i := range n {
			for _, rest := range []int64{one, 5 * one, near} {
				l := slices.Repeat([]int64{rest}, n)
				for _, a := range rights() {
					l[i] = a
					checkRight(t, l, true)
				}
				for _, a := range wrongs() {
					l[i] = a
					checkRight(t, l, false)
				}
			}
		}
	}
	checkRight(t, []int64{one, one + 1, 2 * one, near / 2, near, near - 1, 7 * one, one}, true)
	checkRight(t, []int64{one, near, one, near}, true)
	// No number makes another one good.
	checkRight(t, []int64{0, 2 * one}, false)
	checkRight(t, []int64{-one, 3 * one}, false)
	checkRight(t, []int64{near + 1, near - 1}, false)
}

func TestRight(t *testing.T) {
	for _, a := range edges() {
		checkRight(t, []int64{a}, wantRight([]int64{a}))
		for _, b := range edges() {
			checkRight(t, []int64{a, b}, wantRight([]int64{a, b}))
		}
	}
	r := rand.New(rand.NewSource(111))
	some, good, bad := edges(), rights(), wrongs()
	yes := 0
	for range 20000 {
		l := make([]int64, r.Intn(11))
		for i := range l {
			l[i] = good[r.Intn(len(good))]
		}
		if len(l) > 0 && r.Intn(2) == 0 {
			l[r.Intn(len(l))] = bad[r.Intn(len(bad))]
		}
		if len(l) > 0 && r.Intn(4) == 0 {
			l[r.Intn(len(l))] = some[r.Intn(len(some))]
		}
		checkRight(t, l, wantRight(l))
		if wantRight(l) {
			yes++
		}
	}
	if yes < 2000 || yes > 18000 {
		t.Errorf("of 20000 lists %d are right: too few of one kind", yes)
	}
}
