package path

import (
	"math"
	"math/rand"
	"slices"
	"testing"

	"mutoscope/api"
	"mutoscope/ease"
	"mutoscope/key"
)

const maxTick = int64(api.MaxTick)

func slow() api.Ease { return api.Ease{X1: 27525, X2: 38011, Y2: one} }

func wild() api.Ease { return api.Ease{X1: one / 4, Y1: 3 * one, X2: one / 2, Y2: -2 * one} }

func wantGoes(how int, e api.Ease, p int64) int64 {
	if how == 2 {
		return ease.At(e, p)
	}
	if how == 1 {
		return p
	}
	if how == 0 && p >= one {
		return one
	}
	return 0
}

func wantAt(l []api.PathKey, t int64) api.Path {
	if len(l) == 0 {
		return api.Path{}
	}
	last := -1
	for i := range l {
		if l[i].T <= t {
			last = i
		}
	}
	switch last {
	case -1:
		return clonePath(l[0].Path)
	case len(l) - 1:
		return clonePath(l[last].Path)
	}
	k, next := l[last], l[last+1]
	return wantMorph(k.Path, next.Path, wantGoes(k.How, k.E, ease.Part(k.T, next.T, t)))
}

func wantKeys(l []api.PathKey) bool {
	right := len(l) <= 32
	for i, k := range l {
		right = right && (i == 0 || l[i-1].T < k.T) && k.T >= -maxTick && k.T <= maxTick
		if k.How == 2 {
			right = right && ease.Right(k.E)
		} else {
			right = right && (k.How == 0 || k.How == 1) && k.E.X1 == 0 && k.E.Y1 == 0 && k.E.X2 == 0 && k.E.Y2 == 0
		}
		right = right && len(k.Path.P) > 0 && wantRight(k.Path) && len(k.Path.P) == len(l[0].Path.P) && k.Path.Closed == l[0].Path.Closed
	}
	return right
}

// likeKeys holds two lists against each other, paths by their points.
func likeKeys(a, b []api.PathKey) bool {
	return slices.EqualFunc(a, b, func(x, y api.PathKey) bool {
		return x.T == y.T && x.How == y.How && x.E == y.E && like(x.Path, y.Path)
	})
}

// guardKeys hands l out with room behind it and behind each of its paths' lists; changed says whether any of that is not as it was.
func guardKeys(l []api.PathKey) (given []api.PathKey, changed func() bool) {
	filler := api.PathKey{T: least, Path: row(4, true), How: api.Line, E: api.Ease{X1: 5}}
	all := append(slices.Clone(l), filler, filler)
	var paths []func() bool
	for i := range all {
		path, other := guard(all[i].Path)
		all[i].Path = path
		paths = append(paths, other)
	}
	was := slices.Clone(all)
	return all[:len(l)], func() bool {
		for _, other := range paths {
			if other() {
				return true
			}
		}
		return !likeKeys(all, was)
	}
}

// check asks both calls of l, and looks whether it stays as it was, also when the answer is written into (R2, R5).
func check(t *testing.T, l []api.PathKey, tick int64) {
	t.Helper()
	given, changed := guardKeys(l)
	got := At(given, tick)
	if want := wantAt(l, tick); !like(got, want) {
		t.Fatalf("P7.1: At(%v, %d): %v, want %v", l, tick, got, want)
	}
	if right, want := Keys(given), wantKeys(l); right != want {
		t.Fatalf("P7.1: Keys(%v): %v", l, right)
	}
	spoil(got)
	if changed() {
		t.Fatalf("R2: %v became %v", l, given)
	}
}

// checkAsNumbers: where all paths fit, each of a path's numbers goes as key's does.
func checkAsNumbers(t *testing.T, l []api.PathKey, tick int64) {
	t.Helper()
	got := At(l, tick)
	for p := range got.P {
		xs, ys := make([]api.Key, len(l)), make([]api.Key, len(l))
		for i, k := range l {
			xs[i] = api.Key{T: k.T, V: k.Path.P[p].X, How: k.How, E: k.E}
			ys[i] = api.Key{T: k.T, V: k.Path.P[p].Y, How: k.How, E: k.E}
		}
		if want := at(key.At(xs, tick, 0), key.At(ys, tick, 0)); got.P[p] != want {
			t.Fatalf("P7.1: At(%v, %d): point %d is %v, as key's %v", l, tick, p, got.P[p], want)
		}
	}
}

// anyKeys: up to most keys in any order, with any how, of paths that fit one another or not.
func anyKeys(r *rand.Rand, pick func() int64, most int) []api.PathKey {
	l := make([]api.PathKey, r.Intn(most+1))
	fit := r.Intn(2) == 0
	for i := range l {
		l[i] = api.PathKey{T: pick(), Path: anyPath(r, pick, 5), How: r.Intn(5) - 1}
		if fit {
			l[i].Path = anyLike(pick, l[0].Path)
		}
		if r.Intn(2) == 0 {
			l[i].E = api.Ease{X1: pick(), Y1: pick(), X2: pick(), Y2: pick()}
		}
	}
	return l
}

// anyLike: a path that fits p, of any numbers.
func anyLike(pick func() int64, p api.Path) api.Path {
	out := row(len(p.P), p.Closed)
	for i := range out.P {
		out.P[i] = at(pick(), pick())
	}
	return out
}

// rightKeys: keys that may stand in a document.
func rightKeys(r *rand.Rand) []api.PathKey {
	pick := func() int64 { return r.Int63n(2*near+1) - near }
	l := make([]api.PathKey, r.Intn(api.MaxKeys+1))
	form := row(4+3*r.Intn(5), r.Intn(2) == 0)
	tick := r.Int63n(2000) - 1000
	for i := range l {
		l[i] = api.PathKey{T: tick, Path: anyLike(pick, form), How: r.Intn(3)}
		if l[i].How == api.Curve {
			l[i].E = api.Ease{X1: r.Int63n(one + 1), Y1: r.Int63n(5*one+1) - 2*one, X2: r.Int63n(one + 1), Y2: r.Int63n(5*one+1) - 2*one}
		}
		tick += 1 + r.Int63n(50)
	}
	return l
}

// keyRow: n keys, one tick apart, that are right for n up to MaxKeys.
func keyRow(n int) []api.PathKey {
	l := make([]api.PathKey, n)
	for i := range l {
		l[i] = api.PathKey{T: int64(i) - 16, Path: row(4, true), How: api.Line}
		l[i].Path.P[1].X = int64(100 * i)
	}
	return l
}

func TestKeysLength(t *testing.T) {
	for _, c := range []struct {
		n    int
		want bool
	}{{0, true}, {1, true}, {2, true}, {31, true}, {32, true}, {33, false}, {34, false}, {1000, false}, {1 << 16, false}} {
		if got := Keys(keyRow(c.n)); got != c.want {
			t.Errorf("P7.1: Keys, %d keys: %v", c.n, got)
		}
	}
	if !Keys(nil) || !Keys([]api.PathKey{}) || !Keys(keyRow(5)[:0]) {
		t.Error("R4: Keys of none")
	}
	if !Keys(keyRow(40)[:api.MaxKeys]) {
		t.Error("R5: Keys of a list with keys behind it")
	}
}

func TestKeysTicks(t *testing.T) {
	for _, c := range []struct {
		ticks []int64
		want  bool
	}{
		{[]int64{-maxTick}, true}, {[]int64{maxTick}, true}, {[]int64{1 - maxTick}, true}, {[]int64{maxTick - 1}, true},
		{[]int64{-maxTick, maxTick}, true}, {[]int64{-maxTick, 0, maxTick}, true},
		{[]int64{-maxTick, 1 - maxTick}, true}, {[]int64{maxTick - 1, maxTick}, true},
		{[]int64{-maxTick - 1}, false}, {[]int64{maxTick + 1}, false}, {[]int64{least}, false}, {[]int64{most}, false},
		{[]int64{-maxTick - 1, 0, 5}, false}, {[]int64{0, 5, maxTick + 1}, false}, {[]int64{0, maxTick + 1, maxTick + 2}, false},
		{[]int64{least, 0, most}, false}, {[]int64{0, most}, false}, {[]int64{least, 0}, false},
		{[]int64{0, 1}, true}, {[]int64{-5, -4, 0}, true}, {[]int64{-1, 0, 1}, true},
		{[]int64{0, 0}, false}, {[]int64{1, 0}, false}, {[]int64{-4, -5}, false}, {[]int64{-1, -1}, false},
		{[]int64{0, 1, 1}, false}, {[]int64{0, 1, 0}, false}, {[]int64{0, 0, 1}, false}, {[]int64{1, 0, 2}, false},
		{[]int64{0, 5, 5, 9}, false}, {[]int64{0, 5, 4, 9}, false}, {[]int64{maxTick, -maxTick}, false}, {[]int64{maxTick, maxTick}, false},
	} {
		l := keyRow(len(c.ticks))
		for i := range l {
			l[i].T = c.ticks[i]
		}
		if got := Keys(l); got != c.want {
			t.Errorf("P7.1: Keys, ticks %v: %v", c.ticks, got)
		}
	}
	// A fall and a stay, at each place of a full row.
	for i := 1; i < api.MaxKeys; i++ {
		for back := range int64(2) {
			l := keyRow(api.MaxKeys)
			l[i].T = l[i-1].T - back
			if Keys(l) {
				t.Errorf("P7.1: Keys, key %d %d behind the one ahead", i, back)
			}
		}
	}
}

func TestKeysHow(t *testing.T) {
	for _, c := range []struct {
		how  int
		e    api.Ease
		want bool
	}{
		{api.Hold, api.Ease{}, true}, {api.Line, api.Ease{}, true}, {api.Curve, api.Ease{}, true},
		{3, api.Ease{}, false}, {-1, api.Ease{}, false}, {4, slow(), false}, {256, api.Ease{}, false},
		{math.MaxInt, api.Ease{}, false}, {math.MinInt, api.Ease{}, false},
		{api.Curve, slow(), true}, {api.Curve, wild(), true},
		{api.Curve, api.Ease{X1: one, Y1: 3 * one, X2: one, Y2: 3 * one}, true},
		{api.Curve, api.Ease{Y1: -2 * one, Y2: -2 * one}, true},
		{api.Curve, api.Ease{X1: one + 1}, false}, {api.Curve, api.Ease{X1: -1}, false},
		{api.Curve, api.Ease{X2: one + 1}, false}, {api.Curve, api.Ease{X2: -1}, false},
		{api.Curve, api.Ease{Y1: 3*one + 1}, false}, {api.Curve, api.Ease{Y1: -2*one - 1}, false},
		{api.Curve, api.Ease{Y2: 3*one + 1}, false}, {api.Curve, api.Ease{Y2: -2*one - 1}, false},
		{api.Hold, slow(), false}, {api.Line, slow(), false},
		{api.Hold, api.Ease{X1: 1}, false}, {api.Hold, api.Ease{Y1: 1}, false}, {api.Hold, api.Ease{X2: 1}, false}, {api.Hold, api.Ease{Y2: 1}, false},
		{api.Line, api.Ease{X1: 1}, false}, {api.Line, api.Ease{Y1: -1}, false}, {api.Line, api.Ease{X2: 1}, false}, {api.Line, api.Ease{Y2: least}, false},
	} {
		for i := range 3 {
			l := keyRow(3)
			l[i].How, l[i].E = c.how, c.e
			if got := Keys(l); got != c.want {
				t.Errorf("P7.1: Keys, how %d, ease %v of key %d: %v", c.how, c.e, i, got)
			}
		}
	}
}

// One path of a full row another one, at its ends and in its middle, with all else right.
func TestKeysPaths(t *testing.T) {
	bad := func(x, y int64) api.Path {
		p := row(4, true)
		p.P[2] = at(x, y)
		return p
	}
	for i, c := range []struct {
		path api.Path
		want bool
	}{
		{row(4, true), true}, {bad(near, -near), true}, {bad(-near, near), true}, {bad(0, 0), true},
		{bad(near+1, 0), false}, {bad(-near-1, 0), false}, {bad(0, near+1), false}, {bad(0, -near-1), false}, {bad(most, least), false},
		{api.Path{}, false}, {api.Path{P: []api.Point{}}, false}, {api.Path{Closed: true}, false},
		{row(1, true), false}, {row(3, true), false}, {row(5, true), false}, {row(6, true), false}, {row(98, true), false}, {row(100, true), false},
		// Right for itself, but unlike the others.
		{row(7, true), false}, {row(97, true), false}, {row(4, false), false}, {row(7, false), false},
	} {
		for _, place := range []int{0, 1, 15, 31} {
			l := keyRow(api.MaxKeys)
			l[place].Path = c.path
			if got := Keys(l); got != c.want {
				t.Errorf("P7.1: Keys, path %d at place %d: %v", i, place, got)
			}
		}
	}
}

// All paths of one form: that they fit one another is not enough.
func TestKeysOfOneForm(t *testing.T) {
	for n := range 103 {
		for _, closed := range []bool{false, true} {
			for count := 1; count <= 3; count++ {
				l := keyRow(count)
				for i := range l {
					l[i].Path = row(n, closed)
				}
				if got, want := Keys(l), n >= 4 && n <= 97 && n%3 == 1; got != want {
					t.Errorf("P7.1: Keys, %d of %d points, closed %v: %v", count, n, closed, got)
				}
			}
		}
	}
}

func TestAtOfNoKeys(t *testing.T) {
	for _, tick := range edges() {
		for i, l := range [][]api.PathKey{nil, {}, keyRow(3)[:0]} {
			if got := At(l, tick); len(got.P) != 0 || got.Closed {
				t.Errorf("P7.1: At of no keys, case %d, at %d: %v", i, tick, got)
			}
		}
	}
}

func TestAtByHand(t *testing.T) {
	a, b, c := of(true, 0, 1000, 10, 7), of(true, 100, -500, 13, 7), of(true, 40, 40, 0, 7)
	l := []api.PathKey{
		{T: -20, Path: a, How: api.Line}, {T: -10, Path: b, How: api.Hold}, {T: 0, Path: c, How: api.Curve, E: slow()},
		{T: 16, Path: a, How: api.Curve, E: wild()}, {T: 40, Path: b, How: 3}, {T: 50, Path: c, How: -1}, {T: 60, Path: a, How: api.Line},
	}
	for _, x := range []struct {
		t    int64
		want api.Path
	}{
		// A tenth of One is rounded down: 10 and 90 are not reached.
		{least, a}, {-21, a}, {-20, a}, {-19, of(true, 9, 850, 10, 7)}, {-15, of(true, 50, 250, 11, 7)}, {-11, of(true, 89, -350, 12, 7)},
		{-10, b}, {-9, b}, {-5, b}, {-1, b},
		// Shares 8463 at a quarter and 32771 at the half of the slow curve.
		{0, c}, {4, of(true, 34, 163, 1, 7)}, {8, of(true, 19, 520, 5, 7)},
		// Share 14800 at the half of the wild one.
		{16, a}, {28, of(true, 22, 661, 10, 7)},
		{40, b}, {41, b}, {49, b}, {50, c}, {55, c}, {59, c}, {60, a}, {61, a}, {most, a},
	} {
		if got := At(l, x.t); !like(got, x.want) {
			t.Errorf("P7.1: At(%d): %v, want %v", x.t, got, x.want)
		}
	}
}

// A curve that leaves 0 to One takes paths past both keys'.
func TestAtPastBothKeys(t *testing.T) {
	up := api.Ease{X1: one / 3, Y1: 3 * one, X2: 2 * one / 3, Y2: 3 * one}
	down := api.Ease{X1: one / 3, Y1: -2 * one, X2: 2 * one / 3, Y2: -2 * one}
	for _, c := range []struct {
		e    api.Ease
		want api.Path
	}{{up, of(false, 237, -238)}, {down, of(false, -138, 137)}} {
		l := []api.PathKey{{Path: of(false, 0, 0), How: api.Curve, E: c.e}, {T: 2, Path: of(false, 100, -100)}}
		if got := At(l, 1); !like(got, c.want) {
			t.Errorf("P7.1: At of a curve past its keys: %v, want %v", got, c.want)
		}
	}
}

// One key tells its path at every tick, as it stands: it is not held.
func TestAtOfOneKey(t *testing.T) {
	for _, p := range []api.Path{{}, {Closed: true}, of(true, most, least), row(4, false), row(5, true), row(200, true)} {
		for how := -1; how <= 3; how++ {
			for _, tick := range edges() {
				if got := At([]api.PathKey{{T: 3, Path: p, How: how, E: wild()}}, tick); !like(got, p) {
					t.Errorf("P7.1: At of one key, how %d, at %d: %v, want %v", how, tick, got, p)
				}
			}
		}
	}
}

// Where the next path does not fit, the one ahead of it stands till the next one's tick, far numbers not held.
func TestAtOfUnlikePaths(t *testing.T) {
	a, b, c, d := of(true, most, least, 1, 2), row(4, true), row(4, false), api.Path{}
	for how := -1; how <= 3; how++ {
		l := []api.PathKey{{T: 0, Path: a, How: how, E: slow()}, {T: 10, Path: b, How: how, E: slow()}, {T: 20, Path: c, How: how, E: slow()}, {T: 30, Path: d, How: how}, {T: 40, Path: a}}
		for _, x := range []struct {
			t    int64
			want api.Path
		}{
			{least, a}, {-1, a}, {0, a}, {1, a}, {5, a}, {9, a}, {10, b}, {11, b}, {15, b}, {19, b}, {20, c}, {25, c}, {29, c},
			{30, d}, {35, d}, {39, d}, {40, a}, {41, a}, {most, a},
		} {
			if got := At(l, x.t); !like(got, x.want) {
				t.Errorf("P7.1: At of unlike paths, how %d, at %d: %v, want %v", how, x.t, got, x.want)
			}
		}
	}
}

func TestAtOfKeysInAnyOrder(t *testing.T) {
	key := func(t, x int64, how int) api.PathKey {
		return api.PathKey{T: t, Path: of(true, x, -x, 7, 7), How: how, E: slow()}
	}
	for i, c := range []struct {
		l          []api.PathKey
		t, x, less int64
	}{
		{[]api.PathKey{key(5, 1, api.Line), key(3, 2, api.Hold), key(9, 3, api.Hold)}, 4, 2, -2},
		{[]api.PathKey{key(5, 1, api.Hold), key(3, 2, api.Line), key(9, 8, api.Hold)}, 6, 5, -5},
		// None has come: the first one's path, though a later one's tick is earlier.
		{[]api.PathKey{key(5, 1, api.Hold), key(3, 2, api.Line), key(9, 8, api.Hold)}, 2, 1, -1},
		{[]api.PathKey{key(5, 10, api.Line), key(50, 20, api.Hold), key(4, 30, api.Line)}, 7, 30, -30},
		{[]api.PathKey{key(5, 10, api.Line), key(5, 20, api.Line), key(6, 30, api.Hold)}, 5, 20, -20},
		{[]api.PathKey{key(5, 10, api.Line), key(5, 20, api.Line), key(7, 30, api.Hold)}, 6, 25, -25},
		{[]api.PathKey{key(9, 0, api.Line), key(0, 0, api.Curve), key(8, one, api.Hold)}, 4, 32771, -32771},
		{[]api.PathKey{key(5, 10, api.Line), key(5, 20, api.Line)}, 5, 20, -20},
		{[]api.PathKey{key(5, 10, api.Line), key(5, 20, api.Line)}, 4, 10, -10},
		{[]api.PathKey{key(1, 10, api.Hold), key(9, 20, api.Hold), key(2, 30, api.Line), key(6, 41, api.Hold)}, 4, 35, -36},
	} {
		if got, want := At(c.l, c.t), of(true, c.x, c.less, 7, 7); !like(got, want) {
			t.Errorf("P7.1: At, case %d: %v, want %v", i, got, want)
		}
	}
}

// The ends are told as they stand, what lies between goes by calls that hold; past Great the ticks' held places alone count.
func TestAtFarOut(t *testing.T) {
	two := func(from, to int64, how int, a, b api.Path) []api.PathKey {
		return []api.PathKey{{T: from, Path: a, How: how}, {T: to, Path: b}}
	}
	low, high := of(false, least, most), of(false, most, least)
	near0, near1 := of(false, 0, 1000), of(false, 1000, 0)
	mid := of(false, 500, 500)
	for i, c := range []struct {
		l    []api.PathKey
		t    int64
		want api.Path
	}{
		{two(0, 4, api.Line, low, high), -1, low}, {two(0, 4, api.Line, low, high), 0, of(false, -great, great)},
		{two(0, 4, api.Line, low, high), 1, of(false, -3*great/4, 3*great/4)}, {two(0, 4, api.Line, low, high), 2, of(false, -great/2, great/2)},
		{two(0, 4, api.Line, low, high), 4, high}, {two(0, 4, api.Line, low, high), 5, high},
		{two(0, 4, api.Hold, low, high), 3, of(false, -great, great)}, {two(0, 4, 9, low, high), 3, of(false, -great, great)}, {two(0, 4, 9, low, high), -1, low},
		{two(least, most, api.Line, near0, near1), least, near0}, {two(least, most, api.Line, near0, near1), -great, near0},
		{two(least, most, api.Line, near0, near1), 0, mid}, {two(least, most, api.Line, near0, near1), great, near1},
		// The next tick, held, may have come while itself it has not: a path that stands is then the next one already.
		{two(least, most, api.Hold, near0, near1), great - 1, near0}, {two(least, most, api.Hold, near0, near1), great, near1},
		{two(least, most, api.Hold, near0, near1), most - 1, near1}, {two(least, most, api.Hold, near0, near1), most, near1},
		{two(least, most, api.Curve, near0, near1), great, near1}, {two(least, most, 3, near0, near1), most - 1, near0},
		{two(great+1, great+9, api.Line, near0, near1), great + 5, near0}, {two(least, -great, api.Line, near0, near1), -great - 1, near0},
		{two(most, least, api.Line, near0, near1), 0, near1}, {two(most, most, api.Line, near0, near1), most, near1},
		{two(most, most, api.Line, near0, near1), most - 1, near0}, {two(least, least, api.Line, near0, near1), least, near1},
	} {
		if got := At(c.l, c.t); !like(got, c.want) {
			t.Errorf("P7.1: At, case %d: %v, want %v", i, got, c.want)
		}
	}
}

func TestRightKeysAtEachTick(t *testing.T) {
	r := rand.New(rand.NewSource(5))
	for range 100 {
		l := rightKeys(r)
		if !Keys(l) {
			t.Fatalf("P7.1: Keys(%v): false", l)
		}
		for _, k := range l {
			for _, tick := range []int64{k.T - 1, k.T, k.T + 1, k.T + r.Int63n(25)} {
				check(t, l, tick)
				checkAsNumbers(t, l, tick)
			}
			if got := At(l, k.T); !like(got, k.Path) {
				t.Fatalf("P7.1: At(%v, %d): %v, want the key's own %v", l, k.T, got, k.Path)
			}
		}
	}
}

func TestTwoKeysAtEdges(t *testing.T) {
	some := []int64{least, least + 1, -great - 1, -great, -one, -1, 0, 1, one, great, great + 1, most - 1, most}
	for _, from := range some {
		for _, to := range some {
			for _, tick := range some {
				for how := -1; how <= 3; how++ {
					l := []api.PathKey{{T: from, Path: of(true, to, from, 3, tick), How: how, E: slow()}, {T: to, Path: of(true, from, to, 9, 5), How: how}}
					check(t, l, tick)
					checkAsNumbers(t, l, tick)
				}
			}
		}
	}
}

func TestKeysOfAnySize(t *testing.T) {
	r, pick := rand.New(rand.NewSource(6)), picker(7)
	for range 20000 {
		check(t, anyKeys(r, pick, 6), pick())
	}
	for range 200 {
		check(t, anyKeys(r, pick, 300), pick())
	}
	check(t, keyRow(1<<16), 1<<15)
	long := []api.PathKey{{Path: row(1<<17, true), How: api.Line}, {T: 2, Path: row(1<<17, true)}}
	check(t, long, 1)
}

// R2: nothing of a list is kept: once it has changed, the answers are the new one's, and those of before stand.
func TestKeysNotKept(t *testing.T) {
	l := keyRow(4)
	l[2].Path = row(7, true)
	var first, was []api.Path
	for _, tick := range []int64{-17, -16, -15, -14, -13, -12} {
		first = append(first, At(l, tick))
		was = append(was, wantAt(l, tick))
	}
	Keys(l)
	for _, k := range l {
		spoil(k.Path)
	}
	l[0], l[1] = api.PathKey{T: -14, Path: row(5, true)}, api.PathKey{T: -14, Path: row(4, false), How: 7}
	check(t, l, -15)
	check(t, l, -14)
	for i := range first {
		if !like(first[i], was[i]) {
			t.Errorf("R2: answer %d became %v, was %v", i, first[i], was[i])
		}
	}
}
