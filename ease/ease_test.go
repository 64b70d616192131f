package ease

import (
	"math"
	"math/big"
	"math/rand"
	"testing"

	"mutoscope/api"
)

const (
	one   = int64(api.One)
	great = int64(api.Great)
	least = int64(math.MinInt64)
	most  = int64(math.MaxInt64)
)

// The reckoning below is the chapters', in numbers without a size, and shares nothing with the packages.

func wide(a int64) *big.Int { return big.NewInt(a) }

func between(a *big.Int, lo, hi int64) *big.Int {
	if a.Cmp(wide(lo)) < 0 {
		return wide(lo)
	}
	if a.Cmp(wide(hi)) > 0 {
		return wide(hi)
	}
	return a
}

func held(a *big.Int) *big.Int { return between(a, -great, great) }

func sum(a, b *big.Int) *big.Int { return held(new(big.Int).Add(held(a), held(b))) }

// product: big's Div rounds down where what it divides by is above 0.
func product(a, b *big.Int) *big.Int {
	n := new(big.Int).Mul(held(a), held(b))
	return held(n.Div(n, wide(one)))
}

func thrice(a *big.Int) *big.Int { return new(big.Int).Mul(wide(3), a) }

func wantBend(a, b, t int64) int64 {
	s := between(wide(t), 0, one)
	u := new(big.Int).Sub(wide(one), s)
	first := product(thrice(product(product(u, u), s)), wide(a))
	second := product(thrice(product(product(u, s), s)), wide(b))
	return sum(sum(first, second), product(product(s, s), s)).Int64()
}

// wantAt halves as often as it is told: sixteen times, by the chapter.
func wantAt(e api.Ease, x int64, times int) int64 {
	if x <= 0 {
		return 0
	}
	if x >= one {
		return one
	}
	lo, hi := int64(0), one
	for range times {
		m := (lo + hi) >> 1
		if wantBend(e.X1, e.X2, m) <= x {
			lo = m
		} else {
			hi = m
		}
	}
	return wantBend(e.Y1, e.Y2, lo)
}

func wantPart(from, to, t int64) int64 {
	f, o, s := held(wide(from)), held(wide(to)), held(wide(t))
	if s.Cmp(f) <= 0 {
		return 0
	}
	if s.Cmp(o) >= 0 {
		return one
	}
	n := new(big.Int).Sub(s, f)
	n.Mul(n, wide(one))
	return n.Div(n, new(big.Int).Sub(o, f)).Int64()
}

func wantRight(e api.Ease) bool {
	inside := func(a, lo, hi int64) bool { return between(wide(a), lo, hi).Int64() == a }
	return inside(e.X1, 0, one) && inside(e.X2, 0, one) && inside(e.Y1, -2*one, 3*one) && inside(e.Y2, -2*one, 3*one)
}

func checkBend(t *testing.T, a, b, s int64) {
	t.Helper()
	if got, want := Bend(a, b, s), wantBend(a, b, s); got != want {
		t.Fatalf("P4.1: Bend(%d, %d, %d): %d, want %d", a, b, s, got, want)
	}
}

func checkAt(t *testing.T, e api.Ease, x int64) {
	t.Helper()
	if got, want := At(e, x), wantAt(e, x, 16); got != want {
		t.Fatalf("P4.1: At(%v, %d): %d, want %d", e, x, got, want)
	}
}

func checkPart(t *testing.T, from, to, s int64) {
	t.Helper()
	if got, want := Part(from, to, s), wantPart(from, to, s); got != want {
		t.Fatalf("P4.1: Part(%d, %d, %d): %d, want %d", from, to, s, got, want)
	}
}

func checkRight(t *testing.T, e api.Ease) {
	t.Helper()
	if got, want := Right(e), wantRight(e); got != want {
		t.Fatalf("P4.1: Right(%v): %v", e, got)
	}
}

// edges: numbers round which a call may change its mind, both signs, and those beside them; and the ends of int64.
func edges() []int64 {
	out := []int64{0, least, least + 1, most, most - 1}
	for _, n := range []int64{1, one / 2, one, 2 * one, 3 * one, great / one, great / 2, great, 2 * great, 1 << 56} {
		for _, e := range []int64{n - 1, n, n + 1} {
			out = append(out, e, -e)
		}
	}
	return out
}

// picker: rows of numbers of any size, edges and shares among them.
func picker(seed int64) func() int64 {
	r, list := rand.New(rand.NewSource(seed)), edges()
	return func() int64 {
		switch r.Intn(4) {
		case 0:
			return list[r.Intn(len(list))]
		case 1:
			return r.Int63n(one)
		case 2:
			return r.Int63n(6*one) - 3*one
		}
		return int64(r.Uint64()) >> r.Intn(63)
	}
}

func easeOf(l [4]int64) api.Ease { return api.Ease{X1: l[0], Y1: l[1], X2: l[2], Y2: l[3]} }

// eases: right ones first, then such as are not.
func eases() []api.Ease {
	return []api.Ease{
		{},
		{X1: one / 3, Y1: one / 3, X2: 2 * one / 3, Y2: 2 * one / 3},
		{X1: 27525, X2: 38011, Y2: one},
		{X1: one, X2: 0, Y2: one},
		{Y1: one, X2: one},
		{X1: one, Y1: one, X2: one, Y2: one},
		{X1: one / 4, Y1: 3 * one, X2: one / 2, Y2: -2 * one},
		{X1: 1, Y1: -2 * one, X2: one - 1, Y2: 3 * one},
		{X1: -1, X2: one + 1, Y1: one, Y2: one},
		{X1: 3 * one, Y1: one / 7, X2: -2 * one, Y2: 6 * one},
		{X1: great, Y1: -great, X2: -great, Y2: great},
		{X1: most, Y1: least, X2: least, Y2: most},
		{X1: least, Y1: most, X2: most, Y2: least},
	}
}

// Each of the four numbers at each bound, one inside and one past it, and far past it, with the others right.
func TestRightAtEachBound(t *testing.T) {
	for i, name := range []string{"X1", "Y1", "X2", "Y2"} {
		lo, hi := int64(0), one
		if i%2 == 1 {
			lo, hi = -2*one, 3*one
		}
		for _, c := range []struct {
			n    int64
			want bool
		}{
			{lo, true}, {lo + 1, true}, {hi - 1, true}, {hi, true}, {0, true}, {one, true},
			{lo - 1, false}, {hi + 1, false}, {-great, false}, {great, false}, {least, false}, {most, false},
		} {
			for _, base := range [][4]int64{{}, {one, 3 * one, one, 3 * one}, {0, -2 * one, 0, -2 * one}} {
				l := base
				l[i] = c.n
				if got := Right(easeOf(l)); got != c.want {
					t.Errorf("P4.1: Right, %s %d beside %v: %v", name, c.n, base, got)
				}
			}
		}
	}
}

// The end of the curve that is earlier may lie at the later time: nothing asks X1 to be at most X2.
func TestRightInAnyOrder(t *testing.T) {
	for _, e := range []api.Ease{{X1: one, X2: 0}, {X1: 0, X2: one}, {Y1: 3 * one, Y2: -2 * one}} {
		if !Right(e) {
			t.Errorf("P4.1: Right(%v): false", e)
		}
	}
}

func TestBendByHand(t *testing.T) {
	for i, c := range []struct{ a, b, t, want int64 }{
		{0, 0, 0, 0},
		{most, least, 0, 0},
		{most, least, -1, 0},
		{5, 7, least, 0},
		{5, 7, one, one},
		{5, 7, one + 1, one},
		{least, most, most, one},
		{0, 0, one / 2, one / 8},
		{one, one, one / 2, 57344},
		{one, 0, one / 2, one / 2},
		{0, one, one / 2, one / 2},
		{one, 0, one / 4, 28672},
		{0, one, one / 4, 10240},
		{-2 * one, 3 * one, one / 2, one / 2},
		// Next to 0 and to One, where products are rounded to nothing ahead of the three.
		{one, one, 1, 0},
		{3 * one, 0, 2, 9},
		{0, 3 * one, 2, 0},
		{one, one, one - 1, one - 3},
		// A product below 0 is rounded down, not towards 0.
		{-1, 0, one / 2, 8191},
		{0, -1, one / 2, 8191},
		{-1, -1, one / 2, 8190},
		{1, 1, one / 2, 8192},
		// a and b are held by their products.
		{most, 0, one / 2, 3*great/8 + one/8},
		{0, least, one / 2, -3*great/8 + one/8},
		{great + 1, -great - 1, one / 2, one / 8},
	} {
		if got := Bend(c.a, c.b, c.t); got != c.want {
			t.Errorf("P4.1: Bend, case %d: %d, want %d", i, got, c.want)
		}
		checkBend(t, c.a, c.b, c.t)
	}
}

func TestBendAtEachShare(t *testing.T) {
	for s := int64(-2); s <= one+2; s += 7 {
		for _, e := range eases() {
			checkBend(t, e.X1, e.X2, s)
			checkBend(t, e.Y1, e.Y2, s)
		}
	}
	for _, s := range []int64{-2, -1, 0, 1, 2, 3, one/2 - 1, one / 2, one/2 + 1, one - 3, one - 2, one - 1, one, one + 1, one + 2} {
		for _, a := range edges() {
			for _, b := range edges() {
				checkBend(t, a, b, s)
			}
		}
	}
}

func TestAtEnds(t *testing.T) {
	for _, e := range eases() {
		for _, c := range []struct{ x, want int64 }{{0, 0}, {-1, 0}, {-one, 0}, {least, 0}, {one, one}, {one + 1, one}, {great, one}, {most, one}} {
			if got := At(e, c.x); got != c.want {
				t.Errorf("P4.1: At(%v, %d): %d, want %d", e, c.x, got, c.want)
			}
		}
	}
}

func TestAtByHand(t *testing.T) {
	for i, c := range []struct {
		e       api.Ease
		x, want int64
	}{
		// The share is the last one found whose time is at most x, past the half: 32769, 34346 (time stands still there), 32770.
		{api.Ease{}, one / 8, one / 8},
		{api.Ease{X1: one, Y1: one}, one / 2, 32766},
		{api.Ease{X2: one, Y2: one}, one / 2, 32766},
		// Time and value bend apart.
		{api.Ease{Y1: one, Y2: one}, one / 8, 57338},
		{api.Ease{Y1: -2 * one, Y2: 3 * one}, one / 8, 32765},
		{api.Ease{X1: one, X2: one}, 57344, 8198},
	} {
		if got := At(c.e, c.x); got != c.want {
			t.Errorf("P4.1: At, case %d: %d, want %d", i, got, c.want)
		}
	}
}

func TestAtEachTime(t *testing.T) {
	for _, e := range eases() {
		for _, x := range []int64{1, 2, 3, one/2 - 1, one / 2, one/2 + 1, one - 3, one - 2, one - 1} {
			checkAt(t, e, x)
		}
		for x := int64(-1); x <= one+1; x += 97 {
			checkAt(t, e, x)
		}
	}
}

// A halving less stops ahead of the share that is sought; one more finds the same.
func TestAtHalvesSixteenTimes(t *testing.T) {
	for n, e := range eases()[:8] {
		fewer := 0
		for x := int64(1); x < one; x += 101 {
			got := At(e, x)
			if got != wantAt(e, x, 16) || got != wantAt(e, x, 17) {
				t.Fatalf("P4.1: At(%v, %d): %d", e, x, got)
			}
			if got != wantAt(e, x, 15) {
				fewer++
			}
		}
		if fewer == 0 {
			t.Errorf("P4.1: At of ease %d: fifteen halvings cannot be told from sixteen", n)
		}
	}
}

// A right ease takes a time to the value of the last share that is not past it.
func TestAtIsTheLastShare(t *testing.T) {
	for _, e := range []api.Ease{{}, {X1: one / 3, Y1: one / 3, X2: 2 * one / 3, Y2: 2 * one / 3}, {X1: 27525, X2: 38011, Y2: one}} {
		for x := int64(500); x < one; x += 9973 {
			last := int64(0)
			for s := int64(0); s < one && wantBend(e.X1, e.X2, s) <= x; s++ {
				last = s
			}
			// The curve of rounded shares may waver by a few; the value may not by more.
			if got, want := At(e, x), wantBend(e.Y1, e.Y2, last); got < want-8 || got > want+8 {
				t.Errorf("P4.1: At(%v, %d): %d, want about %d", e, x, got, want)
			}
		}
	}
}

func TestPartByHand(t *testing.T) {
	for i, c := range []struct{ from, to, t, want int64 }{
		{0, 4, 1, one / 4},
		{0, 4, 2, one / 2},
		{0, 4, 3, 3 * one / 4},
		{0, 4, -1, 0},
		{0, 4, 0, 0},
		{0, 4, 4, one},
		{0, 4, 5, one},
		{0, 4, least, 0},
		{0, 4, most, one},
		{0, 3, 1, 21845},
		{0, 3, 2, 43690},
		{-10, -7, -9, 21845},
		{-10, -7, -8, 43690},
		{-1, 2, 0, 21845},
		// None of its way, and a way that runs back: from is asked first.
		{5, 5, 4, 0},
		{5, 5, 5, 0},
		{5, 5, 6, one},
		{9, 3, 2, 0},
		{9, 3, 3, 0},
		{9, 3, 5, 0},
		{9, 3, 9, 0},
		{9, 3, 10, one},
		// Next to both ends of a long way.
		{0, great, 1, 0},
		{0, great, great - 1, one - 1},
		{0, 1 << 24, 255, 0},
		{0, 1 << 24, 256, 1},
		// Both differences are past Great, and stay what they are.
		{-great, great, 0, one / 2},
		{-great, great, great / 2, 3 * one / 4},
		{-great, great, great - 1, one - 1},
		{-great, great, 1 - great, 0},
		// Each is held first: past Great all is the same place.
		{least, most, 0, one / 2},
		{least, most, great / 2, 3 * one / 4},
		{least, most, -great, 0},
		{least, most, 1 - great, 0},
		{least, most, great, one},
		{great, most, most, 0},
		{most, great, most, 0},
		{great + 1, 2 * great, most, 0},
		{least, -great, -great, 0},
		{least, -great, 1 - great, one},
		{0, most, great, one},
		{0, most, great / 4, one / 4},
		{least, 0, -great / 4, 3 * one / 4},
	} {
		if got := Part(c.from, c.to, c.t); got != c.want {
			t.Errorf("P4.1: Part, case %d: %d, want %d", i, got, c.want)
		}
	}
}

func TestPartAtEdges(t *testing.T) {
	all := edges()
	for _, from := range all {
		for _, to := range all {
			for _, s := range all {
				checkPart(t, from, to, s)
			}
			for _, s := range []int64{from - 1, from + 1, to - 1, to + 1} {
				checkPart(t, from, to, s)
			}
		}
	}
}

func TestAnySize(t *testing.T) {
	pick := picker(4)
	for range 20000 {
		e := easeOf([4]int64{pick(), pick(), pick(), pick()})
		checkRight(t, e)
		checkAt(t, e, pick())
		checkBend(t, pick(), pick(), pick())
		checkPart(t, pick(), pick(), pick())
	}
}

// R4: what is asked between two calls leaves no trace in the second one.
func TestSameAgain(t *testing.T) {
	type answer struct {
		right          bool
		bend, at, part int64
	}
	ask := func(pick func() int64) answer {
		e := easeOf([4]int64{pick(), pick(), pick(), pick()})
		return answer{Right(e), Bend(pick(), pick(), pick()), At(e, pick()), Part(pick(), pick(), pick())}
	}
	var first []answer
	for seed := range int64(200) {
		first = append(first, ask(picker(seed)))
	}
	for seed := int64(199); seed >= 0; seed-- {
		if got := ask(picker(seed)); got != first[seed] {
			t.Fatalf("R4: seed %d: %v, first %v", seed, got, first[seed])
		}
	}
}
