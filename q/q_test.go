package q

import (
	"math"
	"math/big"
	"math/rand"
	"testing"

	"mutoscope/api"
)

const (
	one   = int64(api.One)
	far   = int64(api.Far)
	great = int64(api.Great)
	least = int64(math.MinInt64)
	most  = int64(math.MaxInt64)
)

// edges: numbers round which a call may change its mind, both signs, and those beside them.
func edges() []int64 {
	out := []int64{0, least, least + 1, most, most - 1}
	for _, n := range []int64{1, 3, 255, one / 2, one, 3 * one, 1 << 20, 1 << 24, 1 << 28, far, 2 * far, 1 << 32, 1 << 39, great, 2 * great, 1 << 55, 1 << 62} {
		out = append(out, n-1, n, n+1, 1-n, -n, -n-1)
	}
	return out
}

// The reckoning below is the chapter's, in numbers without a size, and shares nothing with the package.

func wide(a int64) *big.Int { return big.NewInt(a) }

func held(a *big.Int, bound int64) *big.Int {
	if a.Cmp(wide(-bound)) < 0 {
		return wide(-bound)
	}
	if a.Cmp(wide(bound)) > 0 {
		return wide(bound)
	}
	return a
}

func hold(a int64) *big.Int { return held(wide(a), great) }

// downBy: big's Div rounds down only for a divisor above 0.
func downBy(a, b *big.Int) *big.Int {
	if b.Sign() < 0 {
		a, b = new(big.Int).Neg(a), new(big.Int).Neg(b)
	}
	return new(big.Int).Div(a, b)
}

func wantAdd(a, b *big.Int) *big.Int {
	return held(new(big.Int).Add(held(a, great), held(b, great)), great)
}

func wantMul(a, b *big.Int) *big.Int {
	return held(downBy(new(big.Int).Mul(held(a, great), held(b, great)), wide(one)), great)
}

func wantDiv(a, b int64) *big.Int {
	if b == 0 {
		return wide(0)
	}
	return held(downBy(new(big.Int).Mul(hold(a), wide(one)), hold(b)), great)
}

func wantRoot(a int64) *big.Int {
	if a < 0 {
		return wide(0)
	}
	return new(big.Int).Sqrt(new(big.Int).Mul(hold(a), wide(one)))
}

func wantHyp(x, y int64) *big.Int {
	p, r := held(wide(x), 2*far), held(wide(y), 2*far)
	return new(big.Int).Sqrt(new(big.Int).Add(new(big.Int).Mul(p, p), new(big.Int).Mul(r, r)))
}

func wantMid(a, b, t int64) *big.Int {
	from := hold(a)
	return wantAdd(from, wantMul(wantAdd(wide(b), new(big.Int).Neg(from)), wide(t)))
}

func same(t *testing.T, call string, got int64, want *big.Int, given ...int64) {
	t.Helper()
	if !want.IsInt64() || want.Int64() != got {
		t.Fatalf("P1.1: %s%d: %d, want %s", call, given, got, want)
	}
}

func checkOne(t *testing.T, a int64) {
	t.Helper()
	same(t, "Hold", Hold(a), hold(a), a)
	same(t, "Place", Place(a), held(wide(a), far), a)
	same(t, "Root", Root(a), wantRoot(a), a)
}

func checkTwo(t *testing.T, a, b int64) {
	t.Helper()
	same(t, "Add", Add(a, b), wantAdd(wide(a), wide(b)), a, b)
	same(t, "Mul", Mul(a, b), wantMul(wide(a), wide(b)), a, b)
	same(t, "Div", Div(a, b), wantDiv(a, b), a, b)
	same(t, "Hyp", Hyp(a, b), wantHyp(a, b), a, b)
}

func checkThree(t *testing.T, a, b, c int64) {
	t.Helper()
	same(t, "Mid", Mid(a, b, c), wantMid(a, b, c), a, b, c)
	want := a
	switch {
	case a < b:
		want = b
	case a > c:
		want = c
	}
	same(t, "Clamp", Clamp(a, b, c), wide(want), a, b, c)
}

func TestEdges(t *testing.T) {
	all := edges()
	for _, a := range all {
		checkOne(t, a)
		for _, b := range all {
			checkTwo(t, a, b)
			for _, c := range all {
				checkThree(t, a, b, c)
			}
		}
	}
}

func TestAnySize(t *testing.T) {
	r := rand.New(rand.NewSource(11))
	// Shifted by chance, so that small numbers come as often as great ones.
	any := func() int64 { return int64(r.Uint64()) >> r.Intn(64) }
	for range 100000 {
		a, b, c := any(), any(), any()
		checkOne(t, a)
		checkTwo(t, a, b)
		checkThree(t, a, b, c)
	}
}

func TestRootsBesideSquares(t *testing.T) {
	r := rand.New(rand.NewSource(12))
	for range 20000 {
		n := r.Int63n(1<<28) + 1
		for _, a := range []int64{n*n>>16 - 1, n * n >> 16, n*n>>16 + 1} {
			same(t, "Root", Root(a), wantRoot(a), a)
		}
		x, y := r.Int63n(2*far), r.Int63n(2*far)
		same(t, "Hyp", Hyp(x, y), wantHyp(x, y), x, y)
		same(t, "Hyp", Hyp(x, 0), wide(x), x, 0)
	}
}

// Written out by hand: a fault that the reckoning above shares with the package would not show there.
func TestByHand(t *testing.T) {
	for _, c := range []struct {
		call      string
		got, want int64
	}{
		{"Clamp within", Clamp(5, 1, 9), 5},
		{"Clamp at lo", Clamp(1, 1, 9), 1},
		{"Clamp below", Clamp(0, 1, 9), 1},
		{"Clamp above", Clamp(10, 1, 9), 9},
		{"Clamp below both, crossed", Clamp(0, 9, 1), 9},
		{"Clamp between both, crossed", Clamp(5, 9, 1), 9},
		{"Clamp above both, crossed", Clamp(10, 9, 1), 1},
		{"Clamp of the whole range", Clamp(least, least, most), least},
		{"Hold at Great", Hold(1 << 40), 1 << 40},
		{"Hold beyond Great", Hold(1<<40 + 1), 1 << 40},
		{"Hold below", Hold(least), -1 << 40},
		{"Place at Far", Place(1 << 29), 1 << 29},
		{"Place beyond Far", Place(1<<29 + 1), 1 << 29},
		{"Place below", Place(least), -1 << 29},
		{"Add", Add(2, -5), -3},
		{"Add held in, not only out", Add(most, -5), 1<<40 - 5},
		{"Add of both ends", Add(most, least), 0},
		{"Add beyond", Add(1<<40, 1), 1 << 40},
		{"Mul down, below 0", Mul(-1, 1), -1},
		{"Mul down, above 0", Mul(1, 1), 0},
		{"Mul of two below 0", Mul(-1, -1), 0},
		{"Mul of 3/2 and -5/2", Mul(3*one/2, -5*one/2), -15 * one / 4},
		{"Mul in 128 bits", Mul(1<<40, 1<<40), 1 << 40},
		{"Mul in 128 bits, below 0", Mul(-1<<40, 1<<40), -1 << 40},
		{"Mul of 2^64", Mul(1<<32, 1<<32), 1 << 40},
		{"Mul of -2^64", Mul(-1<<32, 1<<32), -1 << 40},
		{"Mul of a great one and a small one", Mul(-1<<40, 1), -1 << 24},
		{"Mul held in", Mul(least, one), -1 << 40},
		{"Div by 0", Div(one, 0), 0},
		{"Div of the least by 0", Div(least, 0), 0},
		{"Div down, above 0", Div(one, 3*one), 21845},
		{"Div down, below 0", Div(-one, 3*one), -21846},
		{"Div down, by one below 0", Div(one, -3*one), -21846},
		{"Div of two below 0", Div(-one, -3*one), 21845},
		{"Div without a rest, below 0", Div(-6*one, 3*one), -2 * one},
		{"Div beyond Great", Div(1<<40, 1), 1 << 40},
		{"Div of the least by -1", Div(least, -1), 1 << 40},
		{"Div of the ends", Div(most, least), -one},
		{"Root of 4", Root(4 * one), 2 * one},
		{"Root of 2, down", Root(2 * one), 92681},
		{"Root of the smallest", Root(1), 256},
		{"Root a little below a square", Root(4*one - 1), 2*one - 1},
		{"Root of 0", Root(0), 0},
		{"Root below 0", Root(-1), 0},
		{"Root of the least", Root(least), 0},
		{"Root of Great", Root(1 << 40), 1 << 28},
		{"Root held in", Root(most), 1 << 28},
		{"Hyp", Hyp(-3, 4), 5},
		{"Hyp down", Hyp(2, 2), 2},
		{"Hyp at 2 Far", Hyp(1<<30, 0), 1 << 30},
		{"Hyp beyond 2 Far", Hyp(0, -1<<30-1), 1 << 30},
		{"Hyp of both ends, more than 2 Far", Hyp(least, most), 1518500249},
		{"Mid half way", Mid(0, 10, one/2), 5},
		{"Mid down, below 0", Mid(0, -10, one/4), -3},
		{"Mid at 0", Mid(7, 9, 0), 7},
		{"Mid at One", Mid(7, 9, one), 9},
		{"Mid beyond One", Mid(7, 9, 2*one), 11},
		{"Mid of a way that is held", Mid(-1<<40, 1<<40, one), 0},
		{"Mid from the least", Mid(least, 0, one), 0},
		{"Mid to the least", Mid(5, least, one), 5 - 1<<40},
	} {
		if c.got != c.want {
			t.Errorf("P1.1: %s: %d, want %d", c.call, c.got, c.want)
		}
	}
}

// R4: the same question, asked again after others, has the same answer.
func TestAnswersHangOnWhatIsGiven(t *testing.T) {
	ask := func() [9]int64 {
		return [9]int64{Clamp(4, 5, 6), Hold(most), Place(least), Add(1, 2), Mul(-7, 5), Div(9, -4), Root(77), Hyp(12, 35), Mid(3, 8, 999)}
	}
	first := ask()
	for _, a := range edges() {
		checkOne(t, a)
		checkTwo(t, a, -a)
		if got := ask(); got != first {
			t.Fatalf("R4: after %d: %v, at first %v", a, got, first)
		}
	}
}
