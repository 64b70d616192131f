package hue

import (
	"math"
	"math/rand"
	"slices"
	"testing"

	"mutoscope/api"
	"mutoscope/ease"
	"mutoscope/key"
)

const (
	one     = int64(api.One)
	half    = one / 2
	great   = int64(api.Great)
	maxTick = int64(api.MaxTick)
	least   = int64(math.MinInt64)
	most    = int64(math.MaxInt64)
)

// The reckoning below is the chapter's; of the packages it uses the curves of ease, and how far a tick has come, alone.

// wantPart: a product of 2^40 and a byte goes into 64 bits; Go rounds towards 0, which is up where it is below 0.
func wantPart(a, b uint8, p int64) uint8 {
	p = max(-great, min(p, great))
	n := (int64(b) - int64(a)) * p
	way := n / one
	if n%one < 0 {
		way--
	}
	return uint8(max(0, min(int64(a)+way, 255)))
}

func wantMix(a, b api.Color, p int64) api.Color {
	return api.Color{wantPart(a[0], b[0], p), wantPart(a[1], b[1], p), wantPart(a[2], b[2], p), wantPart(a[3], b[3], p)}
}

func wantGoes(how int, e api.Ease, p int64) int64 {
	if how == 2 {
		return ease.At(e, p)
	}
	if how == 1 {
		return p
	}
	if how == 0 && p >= one {
		return one
	}
	return 0
}

func wantAt(l []api.ColorKey, t int64, none api.Color) api.Color {
	if len(l) == 0 {
		return none
	}
	last := -1
	for i := range l {
		if l[i].T <= t {
			last = i
		}
	}
	switch last {
	case -1:
		return l[0].C
	case len(l) - 1:
		return l[last].C
	}
	k, next := l[last], l[last+1]
	return wantMix(k.C, next.C, wantGoes(k.How, k.E, ease.Part(k.T, next.T, t)))
}

func wantRight(l []api.ColorKey) bool {
	right := len(l) <= 32
	for i, k := range l {
		right = right && (i == 0 || l[i-1].T < k.T) && k.T >= -maxTick && k.T <= maxTick
		if k.How == 2 {
			right = right && ease.Right(k.E)
		} else {
			right = right && (k.How == 0 || k.How == 1) && k.E.X1 == 0 && k.E.Y1 == 0 && k.E.X2 == 0 && k.E.Y2 == 0
		}
	}
	return right
}

// checkAsKeys: where no colour is held, each of the four goes as a number of its own.
func checkAsKeys(t *testing.T, l []api.ColorKey, tick int64, none api.Color) {
	t.Helper()
	got := At(l, tick, none)
	for part := range none {
		same := make([]api.Key, len(l))
		for i, k := range l {
			same[i] = api.Key{T: k.T, V: int64(k.C[part]), How: k.How, E: k.E}
		}
		want := max(0, min(key.At(same, tick, int64(none[part])), 255))
		if int64(got[part]) != want {
			t.Fatalf("P6.1: At(%v, %d, %v): part %d is %d, as key's %d", l, tick, none, part, got[part], want)
		}
		if Right(l) != key.Right(same) {
			t.Fatalf("P6.1: Right(%v): %v, unlike key's", l, Right(l))
		}
	}
}

// check asks both calls of l, hands them a list with room behind it, and looks whether that stays as it was (R2, R5).
func check(t *testing.T, l []api.ColorKey, tick int64, none api.Color) {
	t.Helper()
	filler := api.ColorKey{T: least, C: api.Color{7, 77, 177, 7}, How: api.Line, E: api.Ease{X1: 5}}
	all := append(slices.Clone(l), filler, filler)
	was := slices.Clone(all)
	given := all[:len(l)]
	if got, want := At(given, tick, none), wantAt(l, tick, none); got != want {
		t.Fatalf("P6.1: At(%v, %d, %v): %v, want %v", l, tick, none, got, want)
	}
	if got, want := Right(given), wantRight(l); got != want {
		t.Fatalf("P6.1: Right(%v): %v", l, got)
	}
	if !slices.Equal(all, was) {
		t.Fatalf("R2: %v became %v", was, all)
	}
}

// edges: numbers round which a call may change its mind, both signs, and those beside them; and the ends of int64.
func edges() []int64 {
	out := []int64{0, least, least + 1, most, most - 1}
	for _, n := range []int64{1, one / 255, one / 4, half, one, 2 * one, 255 * one, maxTick, great / 2, great, 2 * great, 1 << 55, 1 << 56} {
		for _, e := range []int64{n - 1, n, n + 1} {
			out = append(out, e, -e)
		}
	}
	return out
}

// picker: rows of numbers of any size, edges, shares and small ones among them.
func picker(seed int64) func() int64 {
	r, list := rand.New(rand.NewSource(seed)), edges()
	return func() int64 {
		switch r.Intn(4) {
		case 0:
			return list[r.Intn(len(list))]
		case 1:
			return r.Int63n(one)
		case 2:
			return r.Int63n(20) - 10
		}
		return int64(r.Uint64()) >> r.Intn(63)
	}
}

func anyColor(r *rand.Rand) api.Color {
	n := r.Uint32()
	return api.Color{uint8(n), uint8(n >> 8), uint8(n >> 16), uint8(n >> 24)}
}

// anyKeys: up to most keys in any order, with any how.
func anyKeys(r *rand.Rand, pick func() int64, most int) []api.ColorKey {
	l := make([]api.ColorKey, r.Intn(most+1))
	for i := range l {
		l[i] = api.ColorKey{T: pick(), C: anyColor(r), How: r.Intn(5) - 1}
		if r.Intn(2) == 0 {
			l[i].E = api.Ease{X1: pick(), Y1: pick(), X2: pick(), Y2: pick()}
		}
	}
	return l
}

// rightKeys: keys that are Right.
func rightKeys(r *rand.Rand) []api.ColorKey {
	l := make([]api.ColorKey, r.Intn(api.MaxKeys+1))
	tick := r.Int63n(2000) - 1000
	for i := range l {
		l[i] = api.ColorKey{T: tick, C: anyColor(r), How: r.Intn(3)}
		if l[i].How == api.Curve {
			l[i].E = api.Ease{X1: r.Int63n(one + 1), Y1: r.Int63n(5*one+1) - 2*one, X2: r.Int63n(one + 1), Y2: r.Int63n(5*one+1) - 2*one}
		}
		tick += 1 + r.Int63n(50)
	}
	return l
}

// row: n keys, one tick apart, that are Right for n up to MaxKeys.
func row(n int) []api.ColorKey {
	l := make([]api.ColorKey, n)
	for i := range l {
		l[i] = api.ColorKey{T: int64(i) - 16, C: api.Color{uint8(i), uint8(255 - i), uint8(3 * i), 255}, How: api.Line}
	}
	return l
}

func slow() api.Ease { return api.Ease{X1: 27525, X2: 38011, Y2: one} }

func wild() api.Ease { return api.Ease{X1: one / 4, Y1: 3 * one, X2: one / 2, Y2: -2 * one} }

func TestMixByHand(t *testing.T) {
	for i, c := range []struct {
		a, b uint8
		p    int64
		want uint8
	}{
		{0, 255, half, 127}, {255, 0, half, 127}, {0, 255, 0, 0}, {255, 0, 0, 255}, {0, 255, one, 255}, {255, 0, one, 0},
		{10, 110, one / 4, 35}, {110, 10, one / 4, 85},
		// What does not divide evenly goes down, rising and falling alike.
		{10, 13, half, 11}, {13, 10, half, 11}, {10, 11, 1, 10}, {11, 10, 1, 10}, {10, 11, one - 1, 10}, {11, 10, one - 1, 10},
		{0, 255, 1, 0}, {255, 0, 1, 254}, {0, 255, one - 1, 254}, {255, 0, one - 1, 0}, {0, 255, 257, 0}, {0, 255, 258, 1},
		{255, 0, 257, 254}, {255, 0, 258, 253}, {0, 3, 21845, 0}, {0, 3, 21846, 1}, {3, 0, 21845, 2}, {3, 0, 21846, 1},
		{10, 13, half - 1, 11}, {10, 13, half + 1, 11}, {12, 10, half - 1, 11}, {12, 10, half, 11}, {12, 10, half + 1, 10},
		// Below 0 and past One the way goes on, as far as 0 and 255.
		{10, 13, -1, 9}, {13, 10, -1, 13}, {10, 13, -one, 7}, {13, 10, -one, 16}, {10, 13, -half, 8}, {13, 10, -half, 14},
		{10, 13, 2 * one, 16}, {13, 10, 2 * one, 7}, {10, 13, one + 1, 13}, {13, 10, one + 1, 9}, {10, 11, -10 * one, 0}, {10, 11, -11 * one, 0},
		{1, 2, -one, 0}, {1, 2, -one - 1, 0}, {0, 1, -1, 0}, {254, 255, one, 255}, {254, 255, 2*one - 1, 255}, {254, 255, 3 * one, 255},
		{254, 253, -one, 255}, {254, 253, -2 * one, 255}, {1, 0, one, 0}, {1, 0, one + 1, 0}, {0, 1, 255 * one, 255}, {0, 1, 255*one - 1, 254}, {0, 1, 256 * one, 255},
		// As far as p goes; where both are one, nowhere.
		{7, 8, great, 255}, {7, 8, great + 1, 255}, {7, 8, most, 255}, {7, 8, -great, 0}, {7, 8, -great - 1, 0}, {7, 8, least, 0},
		{8, 7, great, 0}, {8, 7, most, 0}, {8, 7, -great, 255}, {8, 7, least, 255}, {0, 255, most, 255}, {0, 255, least, 0},
		{255, 0, most, 0}, {255, 0, least, 255}, {0, 2, 1 << 62, 255}, {0, 4, -1 << 62, 0}, {0, 64, 1 << 58, 255},
		{20, 20, most, 20}, {20, 20, least, 20}, {0, 0, great, 0}, {255, 255, -great, 255},
	} {
		for part := range 4 {
			// The others stand still, and differ: no part may take another one's way.
			a := api.Color{91, 92, 93, 94}
			b, want := a, a
			a[part], b[part], want[part] = c.a, c.b, c.want
			if got := Mix(a, b, c.p); got != want {
				t.Errorf("P6.1: Mix, case %d, part %d: %v, want %v", i, part, got, want)
			}
		}
	}
}

func TestMixOfAllFour(t *testing.T) {
	a, b := api.Color{0, 255, 10, 100}, api.Color{255, 0, 13, 97}
	for _, c := range []struct {
		p    int64
		want api.Color
	}{
		{0, a}, {one, b}, {half, api.Color{127, 127, 11, 98}}, {one / 4, api.Color{63, 191, 10, 99}}, {one - 1, api.Color{254, 0, 12, 97}},
		{1, api.Color{0, 254, 10, 99}}, {-1, api.Color{0, 255, 9, 100}}, {-one, api.Color{0, 255, 7, 103}}, {2 * one, api.Color{255, 0, 16, 94}},
		{most, api.Color{255, 0, 255, 0}}, {least, api.Color{0, 255, 0, 255}},
	} {
		if got := Mix(a, b, c.p); got != c.want {
			t.Errorf("P6.1: Mix by %d: %v, want %v", c.p, got, c.want)
		}
	}
}

// Every two bytes, in each part, by each share round which the answer may change.
func TestMixOfEveryTwo(t *testing.T) {
	for _, p := range edges() {
		for n := range 1 << 16 {
			x, y := uint8(n), uint8(n>>8)
			a, b := api.Color{x, y, 255 - x, ^y}, api.Color{y, x, y, x}
			if got, want := Mix(a, b, p), wantMix(a, b, p); got != want {
				t.Fatalf("P6.1: Mix(%v, %v, %d): %v, want %v", a, b, p, got, want)
			}
		}
	}
}

func TestMixByEachShare(t *testing.T) {
	a, b := api.Color{0, 255, 17, 200}, api.Color{255, 0, 18, 101}
	for p := -2 * one; p <= 3*one; p++ {
		if got, want := Mix(a, b, p), wantMix(a, b, p); got != want {
			t.Fatalf("P6.1: Mix(%v, %v, %d): %v, want %v", a, b, p, got, want)
		}
	}
}

func TestRightLength(t *testing.T) {
	for _, c := range []struct {
		n    int
		want bool
	}{{0, true}, {1, true}, {2, true}, {31, true}, {32, true}, {33, false}, {34, false}, {1000, false}, {1 << 20, false}} {
		if got := Right(row(c.n)); got != c.want {
			t.Errorf("P6.1: Right of %d keys: %v", c.n, got)
		}
	}
	if !Right(nil) || !Right([]api.ColorKey{}) || !Right(row(5)[:0]) {
		t.Error("R4: Right of no keys")
	}
	if !Right(row(40)[:api.MaxKeys]) {
		t.Error("R5: Right of a list with keys behind it")
	}
}

func TestRightTicks(t *testing.T) {
	for _, c := range []struct {
		ticks []int64
		want  bool
	}{
		{[]int64{-maxTick}, true}, {[]int64{maxTick}, true}, {[]int64{1 - maxTick}, true}, {[]int64{maxTick - 1}, true},
		{[]int64{-maxTick, maxTick}, true}, {[]int64{-maxTick, 0, maxTick}, true},
		{[]int64{-maxTick, 1 - maxTick}, true}, {[]int64{maxTick - 1, maxTick}, true},
		{[]int64{-maxTick - 1}, false}, {[]int64{maxTick + 1}, false}, {[]int64{least}, false}, {[]int64{most}, false},
		{[]int64{-maxTick - 1, 0, 5}, false}, {[]int64{0, 5, maxTick + 1}, false}, {[]int64{0, maxTick + 1, maxTick + 2}, false},
		{[]int64{least, 0, most}, false}, {[]int64{0, most}, false}, {[]int64{least, 0}, false},
		{[]int64{0, 1}, true}, {[]int64{-5, -4, 0}, true}, {[]int64{-1, 0, 1}, true},
		{[]int64{0, 0}, false}, {[]int64{1, 0}, false}, {[]int64{-4, -5}, false}, {[]int64{-1, -1}, false},
		{[]int64{0, 1, 1}, false}, {[]int64{0, 1, 0}, false}, {[]int64{0, 0, 1}, false}, {[]int64{1, 0, 2}, false},
		{[]int64{0, 5, 5, 9}, false}, {[]int64{0, 5, 4, 9}, false}, {[]int64{maxTick, -maxTick}, false}, {[]int64{maxTick, maxTick}, false},
	} {
		l := make([]api.ColorKey, len(c.ticks))
		for i := range l {
			l[i].T = c.ticks[i]
		}
		if got := Right(l); got != c.want {
			t.Errorf("P6.1: Right, ticks %v: %v", c.ticks, got)
		}
	}
	// A fall and a stay, at each place of a full row.
	for i := 1; i < api.MaxKeys; i++ {
		for back := range int64(2) {
			l := row(api.MaxKeys)
			l[i].T = l[i-1].T - back
			if Right(l) {
				t.Errorf("P6.1: Right, key %d %d behind the one ahead", i, back)
			}
		}
	}
}

func TestRightHow(t *testing.T) {
	for _, c := range []struct {
		how  int
		e    api.Ease
		want bool
	}{
		{api.Hold, api.Ease{}, true}, {api.Line, api.Ease{}, true}, {api.Curve, api.Ease{}, true},
		{3, api.Ease{}, false}, {-1, api.Ease{}, false}, {4, slow(), false}, {256, api.Ease{}, false},
		{math.MaxInt, api.Ease{}, false}, {math.MinInt, api.Ease{}, false},
		{api.Curve, slow(), true}, {api.Curve, wild(), true},
		{api.Curve, api.Ease{X1: one, Y1: 3 * one, X2: one, Y2: 3 * one}, true},
		{api.Curve, api.Ease{X1: one + 1}, false}, {api.Curve, api.Ease{X1: -1}, false},
		{api.Curve, api.Ease{X2: one + 1}, false}, {api.Curve, api.Ease{X2: -1}, false},
		{api.Curve, api.Ease{Y1: 3*one + 1}, false}, {api.Curve, api.Ease{Y1: -2*one - 1}, false},
		{api.Curve, api.Ease{Y2: 3*one + 1}, false}, {api.Curve, api.Ease{Y2: -2*one - 1}, false},
		{api.Hold, slow(), false}, {api.Line, slow(), false},
	} {
		for i := range 3 {
			l := row(3)
			l[i].How, l[i].E = c.how, c.e
			if got := Right(l); got != c.want {
				t.Errorf("P6.1: Right, how %d, ease %v of key %d: %v", c.how, c.e, i, got)
			}
		}
	}
	for _, how := range []int{api.Hold, api.Line} {
		for i, e := range []api.Ease{{X1: 1}, {Y1: 1}, {X2: 1}, {Y2: 1}, {Y1: -1}, {Y2: least}} {
			if Right([]api.ColorKey{{How: how, E: e}}) {
				t.Errorf("P6.1: Right, how %d with ease %d that is not zero", how, i)
			}
		}
	}
}

// No colour is wrong.
func TestRightOfEachColor(t *testing.T) {
	for v := range 256 {
		for part := range 4 {
			l := row(3)
			l[part%3].C[part] = uint8(v)
			if !Right(l) {
				t.Errorf("P6.1: Right, part %d of a colour %d: false", part, v)
			}
		}
	}
}

func TestAtOfNoKeys(t *testing.T) {
	for _, none := range []api.Color{{}, {1, 2, 3, 4}, {255, 255, 255, 255}, {3: 255}} {
		for _, tick := range []int64{least, -1, 0, 5, most} {
			if At(nil, tick, none) != none || At([]api.ColorKey{}, tick, none) != none || At(row(3)[:0], tick, none) != none {
				t.Errorf("P6.1: At(nothing, %d, %v)", tick, none)
			}
		}
	}
}

func TestAtByHand(t *testing.T) {
	a, b, c := api.Color{0, 255, 10, 255}, api.Color{255, 0, 13, 255}, api.Color{100, 100, 100, 0}
	l := []api.ColorKey{
		{T: -20, C: a, How: api.Line}, {T: -10, C: b, How: api.Hold}, {T: 0, C: c, How: api.Curve, E: slow()},
		{T: 16, C: a, How: api.Curve, E: wild()}, {T: 40, C: b, How: 3}, {T: 50, C: c, How: -1}, {T: 60, C: a, How: api.Line},
	}
	for _, x := range []struct {
		t    int64
		want api.Color
	}{
		{least, a}, {-21, a}, {-20, a}, {-19, api.Color{25, 229, 10, 255}}, {-15, api.Color{127, 127, 11, 255}}, {-11, api.Color{229, 25, 12, 255}},
		{-10, b}, {-9, b}, {-5, b}, {-1, b},
		// Shares 8463 at a quarter and 32771 at the half of the slow curve.
		{0, c}, {4, api.Color{87, 120, 88, 32}}, {8, api.Color{49, 177, 54, 127}},
		// Share 14800 at the half of the wild one.
		{16, a}, {28, api.Color{57, 197, 10, 255}},
		{40, b}, {41, b}, {49, b}, {50, c}, {55, c}, {59, c}, {60, a}, {61, a}, {most, a},
	} {
		if got := At(l, x.t, api.Color{1, 2, 3, 4}); got != x.want {
			t.Errorf("P6.1: At(%d): %v, want %v", x.t, got, x.want)
		}
	}
}

// A curve that leaves 0 to One takes colours past both keys', held.
func TestAtPastBothKeys(t *testing.T) {
	up := api.Ease{X1: one / 3, Y1: 3 * one, X2: 2 * one / 3, Y2: 3 * one}
	down := api.Ease{X1: one / 3, Y1: -2 * one, X2: 2 * one / 3, Y2: -2 * one}
	a, b := api.Color{100, 150, 0, 255}, api.Color{120, 130, 200, 0}
	for _, c := range []struct {
		e    api.Ease
		want api.Color
	}{{up, api.Color{147, 102, 255, 0}}, {down, api.Color{72, 177, 0, 255}}} {
		if got := At([]api.ColorKey{{C: a, How: api.Curve, E: c.e}, {T: 2, C: b}}, 1, a); got != c.want {
			t.Errorf("P6.1: At of a curve past its keys: %v, want %v", got, c.want)
		}
	}
}

// One key tells its colour at every tick.
func TestAtOfOneKey(t *testing.T) {
	c := api.Color{9, 90, 190, 19}
	for how := -1; how <= 3; how++ {
		for _, at := range []int64{least, -1, 3, most} {
			for _, tick := range edges() {
				if got := At([]api.ColorKey{{T: at, C: c, How: how, E: wild()}}, tick, api.Color{}); got != c {
					t.Errorf("P6.1: At of one key at %d, how %d, at %d: %v", at, how, tick, got)
				}
			}
		}
	}
}

func TestAtOfKeysInAnyOrder(t *testing.T) {
	key := func(t int64, red uint8, how int) api.ColorKey {
		return api.ColorKey{T: t, C: api.Color{red, 5, 6, 7}, How: how, E: slow()}
	}
	for i, c := range []struct {
		l    []api.ColorKey
		t    int64
		want uint8
	}{
		{[]api.ColorKey{key(5, 1, api.Line), key(3, 2, api.Hold), key(9, 3, api.Hold)}, 4, 2},
		{[]api.ColorKey{key(5, 1, api.Hold), key(3, 2, api.Line), key(9, 8, api.Hold)}, 6, 5},
		// None has come: the first one's colour, though a later one's tick is earlier.
		{[]api.ColorKey{key(5, 1, api.Hold), key(3, 2, api.Line), key(9, 8, api.Hold)}, 2, 1},
		{[]api.ColorKey{key(5, 10, api.Line), key(50, 20, api.Hold), key(4, 30, api.Line)}, 7, 30},
		{[]api.ColorKey{key(5, 10, api.Line), key(5, 20, api.Line), key(6, 30, api.Hold)}, 5, 20},
		{[]api.ColorKey{key(5, 10, api.Line), key(5, 20, api.Line), key(7, 30, api.Hold)}, 6, 25},
		{[]api.ColorKey{key(9, 0, api.Line), key(0, 0, api.Curve), key(8, 200, api.Hold)}, 4, 100},
		{[]api.ColorKey{key(5, 10, api.Line), key(5, 20, api.Line)}, 5, 20},
		{[]api.ColorKey{key(5, 10, api.Line), key(5, 20, api.Line)}, 4, 10},
		{[]api.ColorKey{key(1, 10, api.Hold), key(9, 20, api.Hold), key(2, 30, api.Line), key(6, 40, api.Hold)}, 4, 35},
	} {
		if got, want := At(c.l, c.t, api.Color{}), (api.Color{c.want, 5, 6, 7}); got != want {
			t.Errorf("P6.1: At, case %d: %v, want %v", i, got, want)
		}
	}
}

// Past Great the ticks' held places alone tell how far At has gone.
func TestAtFarOut(t *testing.T) {
	a, b := api.Color{0, 200, 0, 255}, api.Color{200, 0, 0, 255}
	mid := api.Color{100, 100, 0, 255}
	two := func(from, to int64, how int) []api.ColorKey {
		return []api.ColorKey{{T: from, C: a, How: how}, {T: to, C: b}}
	}
	for i, c := range []struct {
		l    []api.ColorKey
		t    int64
		want api.Color
	}{
		{two(least, most, api.Line), least, a}, {two(least, most, api.Line), -great, a}, {two(least, most, api.Line), 0, mid},
		{two(least, most, api.Line), great, b}, {two(least, most, api.Line), most, b},
		{two(least, most, api.Hold), great - 1, a}, {two(least, most, api.Hold), great, b}, {two(least, most, api.Hold), most - 1, b},
		{two(least, most, 3), most - 1, a}, {two(least, most, api.Curve), great, b},
		{two(great+1, great+9, api.Line), great + 5, a}, {two(least, -great, api.Line), -great - 1, a},
		{two(most, least, api.Line), 0, b}, {two(most, most, api.Line), most, b}, {two(most, most, api.Line), most - 1, a},
	} {
		if got := At(c.l, c.t, api.Color{}); got != c.want {
			t.Errorf("P6.1: At, case %d: %v, want %v", i, got, c.want)
		}
	}
}

func TestRightKeysAtEachTick(t *testing.T) {
	r := rand.New(rand.NewSource(5))
	for range 300 {
		l := rightKeys(r)
		if !Right(l) {
			t.Fatalf("P6.1: Right(%v): false", l)
		}
		for _, k := range l {
			for _, tick := range []int64{k.T - 1, k.T, k.T + 1, k.T + r.Int63n(25)} {
				check(t, l, tick, api.Color{9})
				checkAsKeys(t, l, tick, api.Color{9})
			}
			if got := At(l, k.T, api.Color{9}); got != k.C {
				t.Fatalf("P6.1: At(%v, %d): %v, want the key's own %v", l, k.T, got, k.C)
			}
		}
	}
}

func TestTwoKeysAtEdges(t *testing.T) {
	some := []int64{least, least + 1, -great - 1, -great, -one, -1, 0, 1, one, great, great + 1, most - 1, most}
	for _, from := range some {
		for _, to := range some {
			for _, tick := range some {
				for how := -1; how <= 3; how++ {
					l := []api.ColorKey{{T: from, C: api.Color{1, 99, 255, 0}, How: how, E: slow()}, {T: to, C: api.Color{250, 98, 0, 255}, How: how}}
					check(t, l, tick, api.Color{9})
					checkAsKeys(t, l, tick, api.Color{9})
				}
			}
		}
	}
}

func TestAnySize(t *testing.T) {
	r, pick := rand.New(rand.NewSource(6)), picker(7)
	for range 20000 {
		l, tick, none := anyKeys(r, pick, 6), pick(), anyColor(r)
		check(t, l, tick, none)
		checkAsKeys(t, l, tick, none)
		a, b, p := anyColor(r), anyColor(r), pick()
		if got, want := Mix(a, b, p), wantMix(a, b, p); got != want {
			t.Fatalf("P6.1: Mix(%v, %v, %d): %v, want %v", a, b, p, got, want)
		}
	}
	for range 200 {
		check(t, anyKeys(r, pick, 300), pick(), anyColor(r))
	}
	check(t, row(1<<20), 1<<19, api.Color{9})
}

func TestLumaByHand(t *testing.T) {
	for _, c := range []struct {
		p    api.Pixel
		want int
	}{
		{api.Pixel{}, 0}, {api.Pixel{255, 255, 255, 255}, 255}, {api.Pixel{128, 128, 128, 128}, 128}, {api.Pixel{1, 1, 1, 1}, 1},
		{api.Pixel{255, 0, 0, 255}, 77}, {api.Pixel{0, 255, 0, 255}, 149}, {api.Pixel{0, 0, 255, 255}, 29},
		{api.Pixel{255, 255, 0, 255}, 226}, {api.Pixel{0, 255, 255, 255}, 178}, {api.Pixel{255, 0, 255, 255}, 106},
		// Next to a half, which goes up.
		{api.Pixel{1, 0, 0, 1}, 0}, {api.Pixel{2, 0, 0, 2}, 1}, {api.Pixel{0, 1, 0, 1}, 1}, {api.Pixel{0, 0, 4, 4}, 0}, {api.Pixel{0, 0, 5, 5}, 1},
		{api.Pixel{0, 64, 0, 64}, 38}, {api.Pixel{128, 0, 0, 128}, 39}, {api.Pixel{0, 0, 128, 128}, 15},
	} {
		for alpha := range 256 {
			p := c.p
			p[3] = uint8(alpha)
			if got := Luma(p); got != c.want {
				t.Errorf("P6.1: Luma(%v): %d, want %d", p, got, c.want)
			}
		}
	}
}

func TestLumaOfEachColor(t *testing.T) {
	for red := range 256 {
		for green := range 256 {
			for blue := range 256 {
				p := api.Pixel{uint8(red), uint8(green), uint8(blue), uint8(red ^ green ^ blue)}
				if got, want := Luma(p), (77*red+150*green+29*blue+128)>>8; got != want {
					t.Fatalf("P6.1: Luma(%v): %d, want %d", p, got, want)
				}
			}
		}
	}
}

// R4: what is asked between two calls leaves no trace in the second one.
func TestSameAgain(t *testing.T) {
	type answer struct {
		right   bool
		mix, at api.Color
		luma    int
	}
	ask := func(seed int64) answer {
		r, pick := rand.New(rand.NewSource(seed)), picker(seed)
		l := anyKeys(r, pick, 6)
		return answer{Right(l), Mix(anyColor(r), anyColor(r), pick()), At(l, pick(), anyColor(r)), Luma(api.Pixel(anyColor(r)))}
	}
	var first []answer
	for seed := range int64(200) {
		first = append(first, ask(seed))
	}
	for seed := int64(199); seed >= 0; seed-- {
		if got := ask(seed); got != first[seed] {
			t.Fatalf("R4: seed %d: %v, first %v", seed, got, first[seed])
		}
	}
}

// R2: nothing of a list is kept: once it has changed, the answers are the new one's.
func TestNotKept(t *testing.T) {
	l := row(4)
	Right(l)
	At(l, -15, api.Color{9})
	l[0], l[1] = api.ColorKey{T: -14, C: api.Color{30}}, api.ColorKey{T: -14, C: api.Color{40}, How: 7}
	check(t, l, -15, api.Color{9})
	check(t, l, -14, api.Color{9})
}
