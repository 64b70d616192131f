package key

import (
	"math"
	"math/big"
	"math/rand"
	"slices"
	"testing"

	"mutoscope/api"
	"mutoscope/ease"
)

const (
	one     = int64(api.One)
	great   = int64(api.Great)
	near    = int64(api.Near)
	maxTick = int64(api.MaxTick)
	least   = int64(math.MinInt64)
	most    = int64(math.MaxInt64)
)

// The reckoning below is the chapters', in numbers without a size; of the packages it uses the curves of ease alone.

func wide(a int64) *big.Int { return big.NewInt(a) }

func held(a *big.Int) *big.Int {
	if a.CmpAbs(wide(great)) <= 0 {
		return a
	}
	return wide(great * int64(a.Sign()))
}

// wantMid: big's Div rounds down where what it divides by is above 0.
func wantMid(a, b, p int64) int64 {
	from := held(wide(a))
	way := held(new(big.Int).Sub(held(wide(b)), from))
	way = new(big.Int).Mul(way, held(wide(p)))
	way = held(way.Div(way, wide(one)))
	return held(new(big.Int).Add(from, way)).Int64()
}

func wantPart(from, to, t int64) int64 {
	f, o, s := held(wide(from)), held(wide(to)), held(wide(t))
	if s.Cmp(f) <= 0 {
		return 0
	}
	if s.Cmp(o) >= 0 {
		return one
	}
	n := new(big.Int).Sub(s, f)
	n.Mul(n, wide(one))
	return n.Div(n, new(big.Int).Sub(o, f)).Int64()
}

func wantGoes(how int, e api.Ease, p int64) int64 {
	if how == 2 {
		return ease.At(e, p)
	}
	if how == 1 {
		return p
	}
	if how == 0 && p >= one {
		return one
	}
	return 0
}

func wantFind(l []api.Key, t int64) int {
	last := -1
	for i := range l {
		if l[i].T <= t {
			last = i
		}
	}
	return last
}

func wantAt(l []api.Key, t, none int64) int64 {
	if len(l) == 0 {
		return none
	}
	switch i := wantFind(l, t); i {
	case -1:
		return l[0].V
	case len(l) - 1:
		return l[i].V
	default:
		p := wantGoes(l[i].How, l[i].E, wantPart(l[i].T, l[i+1].T, t))
		return wantMid(l[i].V, l[i+1].V, p)
	}
}

func wantRight(l []api.Key) bool {
	right := len(l) <= 32
	for i, k := range l {
		right = right && (i == 0 || l[i-1].T < k.T)
		right = right && wide(k.T).CmpAbs(wide(maxTick)) <= 0 && wide(k.V).CmpAbs(wide(near)) <= 0
		if k.How == 2 {
			right = right && ease.Right(k.E)
		} else {
			right = right && (k.How == 0 || k.How == 1) && k.E.X1 == 0 && k.E.Y1 == 0 && k.E.X2 == 0 && k.E.Y2 == 0
		}
	}
	return right
}

// check asks every call of l, hands them a list with room behind it, and looks whether that stays as it was (R2, R5).
func check(t *testing.T, l []api.Key, tick, none int64) {
	t.Helper()
	filler := api.Key{T: least, V: 77, How: api.Line, E: api.Ease{X1: 5}}
	all := append(slices.Clone(l), filler, filler)
	was := slices.Clone(all)
	given := all[:len(l)]
	if got, want := Find(given, tick), wantFind(l, tick); got != want {
		t.Fatalf("P5.1: Find(%v, %d): %d, want %d", l, tick, got, want)
	}
	if got, want := At(given, tick, none), wantAt(l, tick, none); got != want {
		t.Fatalf("P5.1: At(%v, %d, %d): %d, want %d", l, tick, none, got, want)
	}
	if got, want := Right(given), wantRight(l); got != want {
		t.Fatalf("P5.1: Right(%v): %v", l, got)
	}
	if !slices.Equal(all, was) {
		t.Fatalf("R2: %v became %v", was, all)
	}
}

// edges: numbers round which a call may change its mind, both signs, and those beside them; and the ends of int64.
func edges() []int64 {
	out := []int64{0, least, least + 1, most, most - 1}
	for _, n := range []int64{1, one / 2, one, near, maxTick, great / 2, great, 2 * great} {
		for _, e := range []int64{n - 1, n, n + 1} {
			out = append(out, e, -e)
		}
	}
	return out
}

// picker: rows of numbers of any size, edges, shares and small ones among them.
func picker(seed int64) func() int64 {
	r, list := rand.New(rand.NewSource(seed)), edges()
	return func() int64 {
		switch r.Intn(4) {
		case 0:
			return list[r.Intn(len(list))]
		case 1:
			return r.Int63n(one)
		case 2:
			return r.Int63n(20) - 10
		}
		return int64(r.Uint64()) >> r.Intn(63)
	}
}

// anyKeys: up to most keys in any order, with any how.
func anyKeys(r *rand.Rand, pick func() int64, most int) []api.Key {
	l := make([]api.Key, r.Intn(most+1))
	for i := range l {
		l[i] = api.Key{T: pick(), V: pick(), How: r.Intn(5) - 1}
		if r.Intn(2) == 0 {
			l[i].E = api.Ease{X1: pick(), Y1: pick(), X2: pick(), Y2: pick()}
		}
	}
	return l
}

// rightKeys: keys that are Right.
func rightKeys(r *rand.Rand) []api.Key {
	l := make([]api.Key, r.Intn(api.MaxKeys+1))
	tick := r.Int63n(2000) - 1000
	for i := range l {
		l[i] = api.Key{T: tick, V: r.Int63n(2*near+1) - near, How: r.Intn(3)}
		if l[i].How == api.Curve {
			l[i].E = api.Ease{X1: r.Int63n(one + 1), Y1: r.Int63n(5*one+1) - 2*one, X2: r.Int63n(one + 1), Y2: r.Int63n(5*one+1) - 2*one}
		}
		tick += 1 + r.Int63n(50)
	}
	return l
}

// row: n keys, one tick apart, that are Right for n up to MaxKeys.
func row(n int) []api.Key {
	l := make([]api.Key, n)
	for i := range l {
		l[i] = api.Key{T: int64(i) - 16, V: int64(i * i), How: api.Line}
	}
	return l
}

func slow() api.Ease { return api.Ease{X1: 27525, X2: 38011, Y2: one} }

func wild() api.Ease { return api.Ease{X1: one / 4, Y1: 3 * one, X2: one / 2, Y2: -2 * one} }

func TestRightLength(t *testing.T) {
	for _, c := range []struct {
		n    int
		want bool
	}{{0, true}, {1, true}, {2, true}, {31, true}, {32, true}, {33, false}, {34, false}, {1000, false}} {
		if got := Right(row(c.n)); got != c.want {
			t.Errorf("P5.1: Right of %d keys: %v", c.n, got)
		}
	}
	if !Right(nil) || !Right([]api.Key{}) || !Right(row(5)[:0]) {
		t.Error("R4: Right of no keys")
	}
}

// Each T and each V of three keys at each bound, next to it and far past it, with all else right.
func TestRightAtEachBound(t *testing.T) {
	for i, at := range []string{"first", "middle", "last"} {
		for _, v := range []struct {
			n    int64
			want bool
		}{
			{0, true}, {near - 1, true}, {near, true}, {1 - near, true}, {-near, true},
			{near + 1, false}, {-near - 1, false}, {great, false}, {-great, false}, {most, false}, {least, false},
		} {
			l := row(3)
			l[i].V = v.n
			if got := Right(l); got != v.want {
				t.Errorf("P5.1: Right, V of the %s key %d: %v", at, v.n, got)
			}
		}
	}
	for _, c := range []struct {
		ticks []int64
		want  bool
	}{
		{[]int64{-maxTick}, true}, {[]int64{maxTick}, true}, {[]int64{1 - maxTick}, true}, {[]int64{maxTick - 1}, true},
		{[]int64{-maxTick, maxTick}, true}, {[]int64{-maxTick, 0, maxTick}, true},
		{[]int64{-maxTick, 1 - maxTick}, true}, {[]int64{maxTick - 1, maxTick}, true},
		{[]int64{-maxTick - 1}, false}, {[]int64{maxTick + 1}, false}, {[]int64{least}, false}, {[]int64{most}, false},
		{[]int64{-maxTick - 1, 0, 5}, false}, {[]int64{0, 5, maxTick + 1}, false}, {[]int64{0, maxTick + 1, maxTick + 2}, false},
		{[]int64{least, 0, most}, false}, {[]int64{0, most}, false}, {[]int64{least, 0}, false},
	} {
		checkTicks(t, c.ticks, c.want)
	}
}

func TestRightRising(t *testing.T) {
	for _, c := range []struct {
		ticks []int64
		want  bool
	}{
		{[]int64{0, 1}, true}, {[]int64{-5, -4, 0}, true}, {[]int64{-1, 0, 1}, true},
		{[]int64{0, 0}, false}, {[]int64{1, 0}, false}, {[]int64{-4, -5}, false}, {[]int64{-1, -1}, false},
		{[]int64{0, 1, 1}, false}, {[]int64{0, 1, 0}, false}, {[]int64{0, 0, 1}, false}, {[]int64{1, 0, 2}, false},
		{[]int64{0, 5, 3}, false}, {[]int64{0, 5, 5, 9}, false}, {[]int64{0, 5, 4, 9}, false},
		{[]int64{maxTick, -maxTick}, false}, {[]int64{maxTick, maxTick}, false},
	} {
		checkTicks(t, c.ticks, c.want)
	}
	// A fall and a stay, at each place of a full row.
	for i := 1; i < api.MaxKeys; i++ {
		for back := range int64(2) {
			l := row(api.MaxKeys)
			l[i].T = l[i-1].T - back
			if Right(l) {
				t.Errorf("P5.1: Right, key %d %d behind the one ahead", i, back)
			}
		}
	}
}

func checkTicks(t *testing.T, ticks []int64, want bool) {
	t.Helper()
	l := make([]api.Key, len(ticks))
	for i := range l {
		l[i].T = ticks[i]
	}
	if got := Right(l); got != want {
		t.Errorf("P5.1: Right, ticks %v: %v", ticks, got)
	}
}

func TestRightHow(t *testing.T) {
	for _, c := range []struct {
		how  int
		e    api.Ease
		want bool
	}{
		{api.Hold, api.Ease{}, true}, {api.Line, api.Ease{}, true}, {api.Curve, api.Ease{}, true},
		{3, api.Ease{}, false}, {-1, api.Ease{}, false}, {4, slow(), false}, {256, api.Ease{}, false},
		{math.MaxInt, api.Ease{}, false}, {math.MinInt, api.Ease{}, false},
		{api.Curve, slow(), true}, {api.Curve, wild(), true},
		{api.Curve, api.Ease{X1: one, Y1: 3 * one, X2: one, Y2: 3 * one}, true},
		{api.Curve, api.Ease{X1: one + 1}, false}, {api.Curve, api.Ease{X1: -1}, false},
		{api.Curve, api.Ease{X2: one + 1}, false}, {api.Curve, api.Ease{X2: -1}, false},
		{api.Curve, api.Ease{Y1: 3*one + 1}, false}, {api.Curve, api.Ease{Y1: -2*one - 1}, false},
		{api.Curve, api.Ease{Y2: 3*one + 1}, false}, {api.Curve, api.Ease{Y2: -2*one - 1}, false},
		{api.Hold, slow(), false}, {api.Line, slow(), false},
	} {
		for i := range 3 {
			l := row(3)
			l[i].How, l[i].E = c.how, c.e
			if got := Right(l); got != c.want {
				t.Errorf("P5.1: Right, how %d, ease %v of key %d: %v", c.how, c.e, i, got)
			}
		}
	}
	for _, how := range []int{api.Hold, api.Line} {
		for i, e := range []api.Ease{{X1: 1}, {Y1: 1}, {X2: 1}, {Y2: 1}, {Y1: -1}, {Y2: least}} {
			if Right([]api.Key{{How: how, E: e}}) {
				t.Errorf("P5.1: Right, how %d with ease %d that is not zero", how, i)
			}
		}
	}
}

func TestGoesByHand(t *testing.T) {
	for _, c := range []struct {
		how     int
		e       api.Ease
		p, want int64
	}{
		{api.Hold, wild(), least, 0}, {api.Hold, wild(), -1, 0}, {api.Hold, wild(), 0, 0}, {api.Hold, wild(), 1, 0},
		{api.Hold, wild(), one / 2, 0}, {api.Hold, wild(), one - 1, 0}, {api.Hold, wild(), one, one},
		{api.Hold, wild(), one + 1, one}, {api.Hold, wild(), great, one}, {api.Hold, wild(), most, one},
		{api.Line, wild(), least, least}, {api.Line, wild(), -1, -1}, {api.Line, wild(), 0, 0}, {api.Line, wild(), 1, 1},
		{api.Line, wild(), one / 2, one / 2}, {api.Line, wild(), one - 1, one - 1}, {api.Line, wild(), one, one},
		{api.Line, wild(), one + 1, one + 1}, {api.Line, wild(), great + 1, great + 1}, {api.Line, wild(), most, most},
		{api.Curve, slow(), least, 0}, {api.Curve, slow(), -1, 0}, {api.Curve, slow(), 0, 0}, {api.Curve, slow(), 1, 0},
		{api.Curve, slow(), one / 4, 8463}, {api.Curve, slow(), one / 2, 32771}, {api.Curve, slow(), one - 1, 65533},
		{api.Curve, slow(), one, one}, {api.Curve, slow(), one + 1, one}, {api.Curve, slow(), most, one},
		{api.Curve, wild(), 1, 18}, {api.Curve, wild(), one / 4, 61826}, {api.Curve, wild(), one / 2, 14800},
	} {
		if got := Goes(c.how, c.e, c.p); got != c.want {
			t.Errorf("P5.1: Goes(%d, %v, %d): %d, want %d", c.how, c.e, c.p, got, c.want)
		}
	}
}

func TestGoesOfNoHow(t *testing.T) {
	for _, how := range []int{-1, -2, 3, 4, 256, 257, 258, 1 << 32, 1<<32 + 1, 1<<32 + 2, math.MaxInt, math.MinInt} {
		for _, p := range edges() {
			if got := Goes(how, slow(), p); got != 0 {
				t.Errorf("P5.1: Goes(%d, %d): %d", how, p, got)
			}
		}
	}
}

func TestFind(t *testing.T) {
	for _, c := range []struct {
		ticks []int64
		t     int64
		want  int
	}{
		{nil, 0, -1}, {nil, most, -1}, {nil, least, -1},
		{[]int64{5}, 4, -1}, {[]int64{5}, 5, 0}, {[]int64{5}, 6, 0}, {[]int64{5}, most, 0}, {[]int64{5}, least, -1},
		// Ahead of, at, next to, between and behind ticks that rise.
		{[]int64{-10, 0, 10}, -11, -1}, {[]int64{-10, 0, 10}, -10, 0}, {[]int64{-10, 0, 10}, -9, 0}, {[]int64{-10, 0, 10}, -5, 0},
		{[]int64{-10, 0, 10}, -1, 0}, {[]int64{-10, 0, 10}, 0, 1}, {[]int64{-10, 0, 10}, 1, 1}, {[]int64{-10, 0, 10}, 9, 1},
		{[]int64{-10, 0, 10}, 10, 2}, {[]int64{-10, 0, 10}, 11, 2}, {[]int64{-10, 0, 10}, most, 2}, {[]int64{-10, 0, 10}, least, -1},
		// The last place, not the latest tick, nor the end of the first run.
		{[]int64{5, 3, 9}, 4, 1}, {[]int64{5, 3, 9}, 6, 1}, {[]int64{5, 3, 9}, 2, -1}, {[]int64{5, 3, 9}, 9, 2},
		{[]int64{5, 50, 4}, 7, 2}, {[]int64{5, 50, 4}, 4, 2}, {[]int64{5, 50, 4}, 3, -1},
		{[]int64{9, 8, 7, 6}, 6, 3}, {[]int64{9, 8, 7, 6}, 5, -1}, {[]int64{1, 9, 2, 9, 3, 9}, 8, 4}, {[]int64{1, 9, 9, 9, 9, 9, 9}, 8, 0},
		{[]int64{9, 9, 9, 9, 9, 9, 1}, 8, 6}, {[]int64{9, 1, 9, 9, 9, 9, 9}, 8, 1},
		// One tick twice and thrice.
		{[]int64{5, 5}, 5, 1}, {[]int64{5, 5}, 4, -1}, {[]int64{5, 5, 6}, 5, 1}, {[]int64{4, 5, 5, 5, 6}, 5, 3}, {[]int64{5, 9, 5, 9}, 5, 2},
		{[]int64{least}, least, 0}, {[]int64{most}, most, 0}, {[]int64{most}, most - 1, -1}, {[]int64{least, most}, most - 1, 0}, {[]int64{least, most}, most, 1},
	} {
		l := make([]api.Key, len(c.ticks))
		for i := range l {
			l[i].T = c.ticks[i]
		}
		if got := Find(l, c.t); got != c.want {
			t.Errorf("P5.1: Find(%v, %d): %d, want %d", c.ticks, c.t, got, c.want)
		}
	}
}

func TestAtOfNoKeys(t *testing.T) {
	for _, none := range edges() {
		for _, tick := range []int64{least, -1, 0, 5, most} {
			if At(nil, tick, none) != none || At([]api.Key{}, tick, none) != none || At(row(3)[:0], tick, none) != none {
				t.Errorf("P5.1: At(nothing, %d, %d)", tick, none)
			}
		}
	}
}

func TestAtByHand(t *testing.T) {
	l := []api.Key{
		{T: -20, V: 1000, How: api.Line}, {T: -10, V: -500, How: api.Hold}, {T: 0, V: 40, How: api.Curve, E: slow()},
		{T: 16, V: -40, How: api.Curve, E: wild()}, {T: 40, V: 7 * one, How: 3}, {T: 50, V: 5, How: api.Line},
	}
	for _, c := range []struct{ t, want int64 }{
		{least, 1000}, {-21, 1000}, {-20, 1000}, {-19, 850}, {-15, 250}, {-11, -350},
		{-10, -500}, {-9, -500}, {-1, -500}, {0, 40}, {1, 39}, {4, 29}, {8, -1}, {12, -30}, {15, -40},
		{16, -40}, {17, 196572}, {28, 103569}, {39, 351054}, {40, 458752}, {41, 458752}, {49, 458752},
		{50, 5}, {51, 5}, {most, 5},
	} {
		if got := At(l, c.t, 9); got != c.want {
			t.Errorf("P5.1: At(%d): %d, want %d", c.t, got, c.want)
		}
	}
	if got := At([]api.Key{{How: api.Line}, {T: 10, V: 10}}, 5, 9); got != 5 {
		t.Errorf("P5.1: the run's At(5): %d", got)
	}
}

// One key tells its number at every tick, as it stands: it is not held.
func TestAtOfOneKey(t *testing.T) {
	for _, v := range edges() {
		for how := -1; how <= 3; how++ {
			for _, tick := range []int64{least, 2, 3, 4, most} {
				if got := At([]api.Key{{T: 3, V: v, How: how, E: wild()}}, tick, 9); got != v {
					t.Errorf("P5.1: At of one key %d, how %d, at %d: %d", v, how, tick, got)
				}
			}
		}
	}
}

// The ends are told as they stand, what lies between goes by calls that hold.
func TestAtFarOut(t *testing.T) {
	two := func(a, b api.Key) []api.Key { return []api.Key{a, b} }
	up := two(api.Key{V: least, How: api.Line}, api.Key{T: 4, V: most})
	long := func(how int) []api.Key { return two(api.Key{T: least, How: how}, api.Key{T: most, V: 1000}) }
	for i, c := range []struct {
		l       []api.Key
		t, want int64
	}{
		{up, -1, least}, {up, 0, -great}, {up, 1, -3 * great / 4}, {up, 2, -great / 2}, {up, 4, most}, {up, 5, most},
		{two(api.Key{V: least}, api.Key{T: 4, V: most}), 3, -great},
		{two(api.Key{V: most, How: api.Line}, api.Key{T: 4, V: least}), 1, 3 * great / 4},
		{two(api.Key{V: most, How: 9}, api.Key{T: 4, V: least}), 1, great},
		{two(api.Key{V: most, How: 9}, api.Key{T: 4, V: least}), -1, most},
		{long(api.Line), least, 0}, {long(api.Line), 0, 500}, {long(api.Line), great, 1000}, {long(api.Line), most, 1000},
		// The next tick, held, may have come while itself it has not: a number that stands is then the next one already.
		{long(api.Hold), great - 1, 0}, {long(api.Hold), great, 1000}, {long(api.Hold), most - 1, 1000},
		{long(3), most - 1, 0},
		{two(api.Key{T: great + 1, V: 5, How: api.Line}, api.Key{T: great + 9, V: 1000}), great + 5, 5},
		{two(api.Key{T: least, V: 5, How: api.Line}, api.Key{T: -great, V: 1000}), -great - 1, 5},
		{two(api.Key{How: api.Curve, E: api.Ease{X1: least, Y1: most, X2: most, Y2: least}}, api.Key{T: 2, V: 1000}), 1, 125},
	} {
		if got := At(c.l, c.t, 9); got != c.want {
			t.Errorf("P5.1: At, case %d: %d, want %d", i, got, c.want)
		}
	}
}

func TestAtOfKeysInAnyOrder(t *testing.T) {
	key := func(t, v int64, how int) api.Key { return api.Key{T: t, V: v, How: how, E: slow()} }
	for i, c := range []struct {
		l       []api.Key
		t, want int64
	}{
		{[]api.Key{key(5, 1, api.Line), key(3, 2, api.Hold), key(9, 3, api.Hold)}, 4, 2},
		{[]api.Key{key(5, 1, api.Hold), key(3, 2, api.Line), key(9, 8, api.Hold)}, 6, 5},
		// None has come: the first one's number, though a later one's tick is earlier.
		{[]api.Key{key(5, 1, api.Hold), key(3, 2, api.Line), key(9, 8, api.Hold)}, 2, 1},
		{[]api.Key{key(5, 10, api.Line), key(50, 20, api.Hold), key(4, 30, api.Line)}, 7, 30},
		{[]api.Key{key(5, 10, api.Line), key(5, 20, api.Line), key(6, 30, api.Hold)}, 5, 20},
		{[]api.Key{key(5, 10, api.Line), key(5, 20, api.Line), key(7, 30, api.Hold)}, 6, 25},
		{[]api.Key{key(9, 0, api.Line), key(0, 0, api.Curve), key(8, one, api.Hold)}, 4, 32771},
		{[]api.Key{key(5, 10, api.Line), key(5, 20, api.Line)}, 5, 20},
		{[]api.Key{key(5, 10, api.Line), key(5, 20, api.Line)}, 4, 10},
	} {
		if got := At(c.l, c.t, 9); got != c.want {
			t.Errorf("P5.1: At, case %d: %d, want %d", i, got, c.want)
		}
	}
}

func TestRightKeysAtEachTick(t *testing.T) {
	r := rand.New(rand.NewSource(5))
	for range 300 {
		l := rightKeys(r)
		if !Right(l) {
			t.Fatalf("P5.1: Right(%v): false", l)
		}
		for _, k := range l {
			for _, tick := range []int64{k.T - 1, k.T, k.T + 1, k.T + r.Int63n(25)} {
				check(t, l, tick, 9)
			}
			if got := At(l, k.T, 9); got != k.V {
				t.Fatalf("P5.1: At(%v, %d): %d, want the key's own %d", l, k.T, got, k.V)
			}
		}
	}
}

func TestTwoKeysAtEdges(t *testing.T) {
	some := []int64{least, least + 1, -great - 1, -great, -one, -1, 0, 1, one, great, great + 1, most - 1, most}
	for _, from := range some {
		for _, to := range some {
			for _, tick := range some {
				for how := -1; how <= 3; how++ {
					check(t, []api.Key{{T: from, V: to, How: how, E: slow()}, {T: to, V: from, How: how}}, tick, 9)
				}
			}
		}
	}
}

func TestAnySize(t *testing.T) {
	r, pick := rand.New(rand.NewSource(6)), picker(7)
	for range 20000 {
		check(t, anyKeys(r, pick, 6), pick(), pick())
		how, e, p := r.Intn(5)-1, api.Ease{X1: pick(), Y1: pick(), X2: pick(), Y2: pick()}, pick()
		if got, want := Goes(how, e, p), wantGoes(how, e, p); got != want {
			t.Fatalf("P5.1: Goes(%d, %v, %d): %d, want %d", how, e, p, got, want)
		}
	}
	for range 200 {
		check(t, anyKeys(r, pick, 300), pick(), pick())
	}
}

// R4: what is asked between two calls leaves no trace in the second one.
func TestSameAgain(t *testing.T) {
	type answer struct {
		right    bool
		find     int
		goes, at int64
	}
	ask := func(seed int64) answer {
		pick := picker(seed)
		l := anyKeys(rand.New(rand.NewSource(seed)), pick, 6)
		tick := pick()
		return answer{Right(l), Find(l, tick), Goes(int(seed%4), slow(), pick()), At(l, tick, pick())}
	}
	var first []answer
	for seed := range int64(200) {
		first = append(first, ask(seed))
	}
	for seed := int64(199); seed >= 0; seed-- {
		if got := ask(seed); got != first[seed] {
			t.Fatalf("R4: seed %d: %v, first %v", seed, got, first[seed])
		}
	}
}

// R2: nothing of a list is kept: once it has changed, the answers are the new one's.
func TestNotKept(t *testing.T) {
	l := row(4)
	Right(l)
	Find(l, -15)
	At(l, -15, 9)
	l[0], l[1] = api.Key{T: -14, V: 300}, api.Key{T: -14, V: 400, How: 7}
	check(t, l, -15, 9)
	check(t, l, -14, 9)
}
