package trig

import (
	"math"
	"math/big"
	"math/rand"
	"testing"

	"mutoscope/api"
)

const (
	one   = int64(api.One)
	round = 360 * one
	least = int64(math.MinInt64)
	most  = int64(math.MaxInt64)
)

// edges: angles round which a call may change its mind, and what lies beside them, a few rounds to either side; and the ends of int64.
func edges() []int64 {
	out := []int64{least, least + 1, most, most - 1, most - 90*one, most - 90*one + 1, least + 90*one}
	for turns := int64(-3); turns <= 3; turns++ {
		for degrees := int64(0); degrees < 360; degrees += 15 {
			a := turns*round + degrees*one
			out = append(out, a-2, a-1, a, a+1, a+2)
		}
	}
	for bit := 0; bit < 63; bit++ {
		n := int64(1) << bit
		out = append(out, n-1, n, n+1, 1-n, -n, -n-1)
	}
	return out
}

// The reckoning below is the chapter's, in numbers without a size, and shares nothing with the package.

// wantTurn: big's Mod is never below 0.
func wantTurn(a *big.Int) *big.Int { return new(big.Int).Mod(a, big.NewInt(round)) }

func wantSin(a *big.Int) int64 {
	half, x := big.NewInt(180*one), wantTurn(a)
	other := x.Cmp(half) >= 0
	if other {
		x.Sub(x, half)
	}
	p := new(big.Int).Sub(half, x)
	p.Mul(p, x).Div(p, big.NewInt(one))
	below := new(big.Int).Sub(big.NewInt(40500*one), p)
	n := new(big.Int).Mul(p, big.NewInt(4*one))
	n.Div(n, below)
	if other {
		n.Neg(n)
	}
	return n.Int64()
}

func wantCos(a *big.Int) int64 {
	return wantSin(new(big.Int).Add(wantTurn(a), big.NewInt(90*one)))
}

func check(t *testing.T, a int64) {
	t.Helper()
	wide := big.NewInt(a)
	if got, want := Turn(a), wantTurn(wide).Int64(); got != want {
		t.Fatalf("P2.1: Turn(%d): %d, want %d", a, got, want)
	}
	if got, want := Sin(a), wantSin(wide); got != want {
		t.Fatalf("P2.1: Sin(%d): %d, want %d", a, got, want)
	}
	if got, want := Cos(a), wantCos(wide); got != want {
		t.Fatalf("P2.1: Cos(%d): %d, want %d", a, got, want)
	}
}

func TestEdges(t *testing.T) {
	for _, a := range edges() {
		check(t, a)
	}
}

func TestAnySize(t *testing.T) {
	r := rand.New(rand.NewSource(2))
	for i := 0; i < 50000; i++ {
		check(t, int64(r.Uint64())>>r.Intn(63))
	}
}

// Each angle of a whole turn: P's own rounding shows in few of them alone.
func TestEachAngle(t *testing.T) {
	for x := int64(0); x < 180*one; x++ {
		p := x * (180*one - x) / one
		want := 4 * p * one / (40500*one - p)
		if got := Sin(x); got != want {
			t.Fatalf("P2.1: Sin(%d): %d, want %d", x, got, want)
		}
		if got := Sin(x + 180*one); got != -want {
			t.Fatalf("P2.1: Sin(%d): %d, want %d", x+180*one, got, -want)
		}
		if got := Cos(x - 90*one); got != want {
			t.Fatalf("P2.1: Cos(%d): %d, want %d", x-90*one, got, want)
		}
		if got := Cos(x + 90*one); got != -want {
			t.Fatalf("P2.1: Cos(%d): %d, want %d", x+90*one, got, -want)
		}
	}
}

type row struct{ a, want int64 }

func rows(t *testing.T, call string, f func(int64) int64, list []row) {
	t.Helper()
	for _, c := range list {
		if got := f(c.a); got != c.want {
			t.Errorf("P2.1: %s(%d): %d, want %d", call, c.a, got, c.want)
		}
	}
}

func TestTurnByHand(t *testing.T) {
	if Round != 23592960 {
		t.Errorf("P2.1: Round: %d", int64(Round))
	}
	rows(t, "Turn", Turn, []row{
		{0, 0}, {1, 1}, {-1, 23592959},
		{round - 1, 23592959}, {round, 0}, {round + 1, 1},
		{1 - round, 1}, {-round, 0}, {-round - 1, 23592959},
		{3 * round, 0}, {-7 * round, 0}, {725*one + 3, 327683}, {-5 * one, 23265280},
		{most, 16252927}, {most - 1, 16252926}, {least, 7340032}, {least + 1, 7340033},
	})
}

func TestSinByHand(t *testing.T) {
	rows(t, "Sin", Sin, []row{
		{0, 0}, {1, 0}, {-1, 0}, {56, 0}, {57, 1}, {112, 1}, {113, 2}, {-57, -1}, {-56, 0},
		{10 * one, 11485}, {30 * one, 32768}, {45 * one, 46260}, {60 * one, 56679}, {150 * one, 32768},
		{89 * one, 65525}, {90*one - 1, 65535}, {90 * one, 65536}, {90*one + 1, 65535}, {91 * one, 65525},
		{180*one - 57, 1}, {180*one - 1, 0}, {180 * one, 0}, {180*one + 1, 0}, {180*one + 57, -1},
		{190 * one, -11485}, {210 * one, -32768}, {269 * one, -65525},
		{270*one - 1, -65535}, {270 * one, -65536}, {270*one + 1, -65535},
		{round - 57, -1}, {round - 1, 0}, {round, 0}, {round + 1, 0}, {450 * one, 65536},
		{-10 * one, -11485}, {-90 * one, -65536}, {-180 * one, 0}, {-270 * one, 65536}, {-350 * one, 11485},
		{most, -60713}, {least, 60713},
	})
}

func TestCosByHand(t *testing.T) {
	rows(t, "Cos", Cos, []row{
		{0, 65536}, {1, 65535}, {-1, 65535}, {45 * one, 46260}, {60 * one, 32768}, {-60 * one, 32768},
		{90*one - 57, 1}, {90*one - 1, 0}, {90 * one, 0}, {90*one + 1, 0}, {90*one + 57, -1},
		{120 * one, -32768}, {180*one - 1, -65535}, {180 * one, -65536}, {180*one + 1, -65535},
		{270*one - 57, -1}, {270*one - 1, 0}, {270 * one, 0}, {270*one + 1, 0}, {270*one + 57, 1},
		{round - 1, 65535}, {round, 65536}, {-180 * one, -65536},
		{most, -24611}, {most - 90*one, -60713}, {most - 90*one + 1, -60713}, {least, -24611},
	})
}

// R4: what is asked between two calls leaves no trace in the second one.
func TestSameAgain(t *testing.T) {
	list := edges()
	first := make([][3]int64, len(list))
	for i, a := range list {
		first[i] = [3]int64{Turn(a), Sin(a), Cos(a)}
	}
	for i := len(list) - 1; i >= 0; i-- {
		a := list[i]
		if got := [3]int64{Turn(a), Sin(a), Cos(a)}; got != first[i] {
			t.Fatalf("R4: %d: %v, first %v", a, got, first[i])
		}
	}
}
