package blend

import (
	"math"
	"math/big"
	"math/rand"
	"testing"

	"mutoscope/api"
)

const (
	least = math.MinInt
	most  = math.MaxInt
)

// The reckoning below is the chapters', in numbers without a size, and shares nothing with the packages.

func wide(a int) *big.Int { return big.NewInt(int64(a)) }

func clamped(a, top int) *big.Int {
	if a < 0 {
		return wide(0)
	}
	if a > top {
		return wide(top)
	}
	return wide(a)
}

// share is a times b, and more, by parts, rounded down.
func share(a, b *big.Int, more, parts int) int {
	n := new(big.Int).Mul(a, b)
	n.Add(n, wide(more))
	return int(n.Div(n, wide(parts)).Int64())
}

func wantBy(a, b int) int { return share(clamped(a, 255), clamped(b, 255), 127, 255) }

func wantStrength(cover int) int { return share(clamped(cover, 16), wide(255), 8, 16) }

func wantOf(c api.Color, alpha, cover int) api.Pixel {
	k := wantBy(wantBy(int(c[3]), alpha), wantStrength(cover))
	return api.Pixel{uint8(wantBy(int(c[0]), k)), uint8(wantBy(int(c[1]), k)), uint8(wantBy(int(c[2]), k)), uint8(k)}
}

func wantFade(p api.Pixel, k int) api.Pixel {
	return api.Pixel{uint8(wantBy(int(p[0]), k)), uint8(wantBy(int(p[1]), k)), uint8(wantBy(int(p[2]), k)), uint8(wantBy(int(p[3]), k))}
}

func wantOver(low, high api.Pixel) api.Pixel {
	var out api.Pixel
	for i := range out {
		n := int(high[i]) + wantBy(int(low[i]), 255-int(high[3]))
		if n > 255 {
			n = 255
		}
		out[i] = uint8(n)
	}
	return out
}

func wantLuma(p api.Pixel) int {
	n := wide(128)
	for i, part := range []int{77, 150, 29} {
		n.Add(n, new(big.Int).Mul(wide(part), wide(int(p[i]))))
	}
	return int(n.Div(n, wide(256)).Int64())
}

func wantMatte(p, m api.Pixel, how int) api.Pixel {
	if how == 1 {
		return wantFade(p, int(m[3]))
	}
	if how == 2 {
		return wantFade(p, wantLuma(m))
	}
	return p
}

// numbers: all from below 0 to past 255, those of which a piece looks like one of them, and the ends of int.
func numbers() []int {
	out := []int{least, least + 1, least + 255, most, most - 1, most - 255, most / 255, most/255 + 1, least / 255, least/255 - 1}
	for n := -20; n <= 280; n++ {
		out = append(out, n)
	}
	for _, n := range []int{400, 511, 512, 1000, 65535, 65536, 1 << 31, 1 << 32, 1 << 33, 1 << 56, 1 << 62} {
		for _, e := range []int{n - 1, n, n + 1, n + 128} {
			out = append(out, e, -e)
		}
	}
	return out
}

// covers: all from below 0 to past 16, and those of which a piece looks like one of them; and the ends of int.
func covers() []int {
	out := []int{least, least + 1, least + 8, most, most - 1, most - 7, most / 255, most/255 + 1, least / 255, least/255 - 1}
	for n := -20; n <= 40; n++ {
		out = append(out, n)
	}
	for _, n := range []int{240, 255, 256, 264, 65536, 1 << 32, 1 << 56, 1 << 60, 1 << 62} {
		for _, e := range []int{n - 1, n, n + 1, n + 8} {
			out = append(out, e, -e)
		}
	}
	return out
}

// picker: rows of numbers of any size, those above among them.
func picker(r *rand.Rand) func() int {
	list := append(numbers(), covers()...)
	return func() int {
		if r.Intn(2) == 0 {
			return list[r.Intn(len(list))]
		}
		return int(r.Uint64()) >> r.Intn(64)
	}
}

func TestByByHand(t *testing.T) {
	for _, c := range []struct{ a, b, want int }{
		{0, 0, 0}, {0, 255, 0}, {255, 0, 0}, {255, 255, 255},
		{255, 1, 1}, {1, 255, 1}, {255, 128, 128}, {77, 255, 77}, // 255 takes all
		{1, 127, 0}, {1, 128, 1}, {127, 1, 0}, {128, 1, 1}, // 254 and 255 by 255
		{128, 128, 64}, {127, 127, 63}, {100, 100, 39}, {254, 254, 253}, {2, 63, 0}, {2, 64, 1}, {3, 42, 0}, {3, 43, 1},
		{-1, 255, 0}, {255, -1, 0}, {-1, -1, 0}, {-255, -255, 0}, {-300, 300, 0},
		{256, 255, 255}, {255, 256, 255}, {256, 256, 255}, {300, 100, 100}, {100, 300, 100},
		{least, least, 0}, {least, most, 0}, {most, least, 0}, {most, most, 255}, {least, 9, 0}, {9, least, 0}, {most, 9, 9}, {9, most, 9},
	} {
		if got := By(c.a, c.b); got != c.want {
			t.Errorf("P17.1: By(%d, %d): %d, want %d", c.a, c.b, got, c.want)
		}
	}
}

func TestByOfEachTwo(t *testing.T) {
	list := numbers()
	for _, a := range list {
		for _, b := range list {
			if got, want := By(a, b), wantBy(a, b); got != want {
				t.Fatalf("P17.1: By(%d, %d): %d, want %d", a, b, got, want)
			}
		}
	}
}

func TestByIsAShare(t *testing.T) {
	for a := range 256 {
		if By(a, 255) != a || By(255, a) != a || By(a, 0) != 0 {
			t.Errorf("P17.1: By of %d: %d, %d, %d", a, By(a, 255), By(255, a), By(a, 0))
		}
		for b := range 256 {
			n := By(a, b)
			if n != By(b, a) || n > a || n > b || n < 0 {
				t.Fatalf("P17.1: By(%d, %d): %d", a, b, n)
			}
			// Rounded down, with 127: so it is the nearest one.
			if off := 255*n - a*b; off > 127 || off < -127 {
				t.Fatalf("P17.1: By(%d, %d): %d is not the nearest", a, b, n)
			}
		}
	}
}

func TestStrengthByHand(t *testing.T) {
	steps := []int{0, 16, 32, 48, 64, 80, 96, 112, 128, 143, 159, 175, 191, 207, 223, 239, 255}
	for cover, want := range steps {
		if got := Strength(cover); got != want {
			t.Errorf("P17.1: Strength(%d): %d, want %d", cover, got, want)
		}
	}
	for _, cover := range []int{-1, -2, -16, -17, -256, least, least + 1, least / 255, least/255 - 1} {
		if got := Strength(cover); got != 0 {
			t.Errorf("P17.1: Strength(%d): %d, want 0", cover, got)
		}
	}
	for _, cover := range []int{17, 18, 32, 255, 256, 1 << 32, most, most - 1, most / 255, most/255 + 1} {
		if got := Strength(cover); got != 255 {
			t.Errorf("P17.1: Strength(%d): %d, want 255", cover, got)
		}
	}
}

func TestStrengthOfEach(t *testing.T) {
	next := picker(rand.New(rand.NewSource(1)))
	list := covers()
	for range 20000 {
		list = append(list, next())
	}
	for _, cover := range list {
		if got, want := Strength(cover), wantStrength(cover); got != want {
			t.Fatalf("P17.1: Strength(%d): %d, want %d", cover, got, want)
		}
	}
}
