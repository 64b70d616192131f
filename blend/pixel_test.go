package blend

import (
	"math/rand"
	"testing"

	"mutoscope/api"
)

var (
	nothing = api.Pixel{}
	all     = api.Pixel{255, 255, 255, 255}
)

// somePixels: ones whose four parts are told apart, and some whose colours are above their alpha.
func somePixels() []api.Pixel {
	return []api.Pixel{
		nothing, all, {0, 0, 0, 255}, {255, 255, 255, 0}, {255, 0, 0, 0}, {0, 255, 0, 0}, {0, 0, 255, 0},
		{100, 50, 0, 200}, {10, 20, 30, 55}, {1, 2, 3, 255}, {3, 2, 1, 4}, {64, 32, 16, 128}, {127, 126, 125, 127},
		{128, 1, 64, 128}, {200, 9, 0, 100}, {0, 9, 200, 100}, {254, 253, 252, 254}, {254, 128, 7, 1}, {5, 250, 240, 2},
	}
}

func somePixel(r *rand.Rand) api.Pixel {
	if r.Intn(4) == 0 {
		list := somePixels()
		return list[r.Intn(len(list))]
	}
	n := r.Uint32()
	return api.Pixel{uint8(n), uint8(n >> 8), uint8(n >> 16), uint8(n >> 24)}
}

func checkOf(t *testing.T, c api.Color, alpha, cover int) {
	t.Helper()
	got, want := Of(c, alpha, cover), wantOf(c, alpha, cover)
	if got != want {
		t.Fatalf("P17.1: Of(%v, %d, %d): %v, want %v", c, alpha, cover, got, want)
	}
	for _, n := range got[:3] {
		if n > got[3] {
			t.Fatalf("P17.1: Of(%v, %d, %d): %v has a colour above its alpha", c, alpha, cover, got)
		}
	}
}

func TestOfByHand(t *testing.T) {
	bright := api.Color{255, 100, 0, 255}
	dim := api.Color{200, 10, 3, 100}
	for _, c := range []struct {
		c            api.Color
		alpha, cover int
		want         api.Pixel
	}{
		{bright, 255, 16, api.Pixel{255, 100, 0, 255}},
		{bright, 255, 8, api.Pixel{128, 50, 0, 128}},
		{bright, 255, 1, api.Pixel{16, 6, 0, 16}},
		{bright, 128, 16, api.Pixel{128, 50, 0, 128}},
		{bright, 128, 8, api.Pixel{64, 25, 0, 64}},
		{bright, 0, 16, nothing}, {bright, 255, 0, nothing}, {bright, -1, 16, nothing}, {bright, 255, -1, nothing},
		{bright, least, most, nothing}, {bright, most, least, nothing}, {bright, least, least, nothing},
		{bright, most, most, api.Pixel{255, 100, 0, 255}}, {bright, 256, 17, api.Pixel{255, 100, 0, 255}},
		{dim, 255, 16, api.Pixel{78, 4, 1, 100}}, {dim, 300, 99, api.Pixel{78, 4, 1, 100}},
		{dim, 128, 16, api.Pixel{39, 2, 1, 50}}, {dim, 128, 8, api.Pixel{20, 1, 0, 25}},
		{api.Color{9, 8, 7, 0}, 255, 16, nothing},
		// One number k, of shares that are rounded each: 3, of which half is 2; and colours By k, not By 3 and then by half.
		{api.Color{255, 0, 0, 5}, 128, 8, api.Pixel{2, 0, 0, 2}},
		{api.Color{100, 101, 102, 103}, 90, 5, api.Pixel{4, 4, 4, 11}},
	} {
		if got := Of(c.c, c.alpha, c.cover); got != c.want {
			t.Errorf("P17.1: Of(%v, %d, %d): %v, want %v", c.c, c.alpha, c.cover, got, c.want)
		}
	}
}

func TestOfOfEachAlphaAndCover(t *testing.T) {
	for a := range 256 {
		for cover := -1; cover <= 17; cover++ {
			c := api.Color{200, 90, 11, uint8(a)}
			checkOf(t, c, 255, cover)
			checkOf(t, c, 77, cover)
			checkOf(t, api.Color{255, 1, 128, 255}, a, cover)
			checkOf(t, api.Color{uint8(a), uint8(255 - a), 60, 130}, 140, cover)
		}
	}
	for _, c := range []api.Color{{200, 90, 11, 255}, {12, 250, 99, 130}} {
		for _, alpha := range numbers() {
			for _, cover := range covers() {
				checkOf(t, c, alpha, cover)
			}
		}
	}
}

func TestOfOfAny(t *testing.T) {
	r := rand.New(rand.NewSource(2))
	next := picker(r)
	for range 100000 {
		checkOf(t, api.Color(somePixel(r)), next(), next())
		checkOf(t, api.Color(somePixel(r)), r.Intn(256), r.Intn(17))
	}
}

func checkFade(t *testing.T, p api.Pixel, k int) {
	t.Helper()
	if got, want := Fade(p, k), wantFade(p, k); got != want {
		t.Fatalf("P17.1: Fade(%v, %d): %v, want %v", p, k, got, want)
	}
}

func TestFadeByHand(t *testing.T) {
	p := api.Pixel{100, 50, 1, 200}
	for _, c := range []struct {
		k    int
		want api.Pixel
	}{
		{0, nothing}, {-1, nothing}, {-255, nothing}, {-256, nothing}, {least, nothing}, {least + 1, nothing},
		{255, p}, {256, p}, {257, p}, {999, p}, {1 << 32, p}, {most, p},
		{128, api.Pixel{50, 25, 1, 100}}, {127, api.Pixel{50, 25, 0, 100}}, {1, api.Pixel{0, 0, 0, 1}}, {2, api.Pixel{1, 0, 0, 2}}, {254, api.Pixel{100, 50, 1, 199}},
	} {
		if got := Fade(p, c.k); got != c.want {
			t.Errorf("P17.1: Fade(%v, %d): %v, want %v", p, c.k, got, c.want)
		}
	}
}

func TestFadeOfEach(t *testing.T) {
	for _, p := range somePixels() {
		for _, k := range numbers() {
			checkFade(t, p, k)
		}
	}
	r := rand.New(rand.NewSource(3))
	next := picker(r)
	for range 50000 {
		checkFade(t, somePixel(r), next())
		checkFade(t, somePixel(r), r.Intn(256))
	}
}

func checkOver(t *testing.T, low, high api.Pixel) {
	t.Helper()
	if got, want := Over(low, high), wantOver(low, high); got != want {
		t.Fatalf("P17.1: Over(%v, %v): %v, want %v", low, high, got, want)
	}
}

func TestOverByHand(t *testing.T) {
	p, o := api.Pixel{100, 50, 0, 200}, api.Pixel{10, 20, 30, 55}
	for _, c := range []struct{ low, high, want api.Pixel }{
		{nothing, nothing, nothing}, {p, nothing, p}, {nothing, p, p},
		{p, api.Pixel{1, 2, 3, 255}, api.Pixel{1, 2, 3, 255}}, {all, api.Pixel{0, 0, 0, 255}, api.Pixel{0, 0, 0, 255}},
		{p, o, api.Pixel{88, 59, 30, 212}}, {o, p, api.Pixel{102, 54, 6, 212}},
		// Half alpha above: 127 of 255 of what is below comes through.
		{api.Pixel{200, 100, 50, 255}, api.Pixel{64, 32, 16, 128}, api.Pixel{164, 82, 41, 255}},
		{api.Pixel{200, 100, 50, 100}, api.Pixel{64, 32, 16, 128}, api.Pixel{164, 82, 41, 178}},
		{all, api.Pixel{0, 0, 0, 1}, api.Pixel{254, 254, 254, 255}},
		// Colours above their alpha: more than 255 is 255, each by itself.
		{all, api.Pixel{200, 9, 0, 100}, api.Pixel{255, 164, 155, 255}},
		{all, api.Pixel{0, 101, 100, 100}, api.Pixel{155, 255, 255, 255}},
		{api.Pixel{1, 255, 7, 9}, api.Pixel{255, 3, 249, 0}, api.Pixel{255, 255, 255, 9}},
		{api.Pixel{0, 3, 6, 9}, api.Pixel{255, 3, 249, 0}, api.Pixel{255, 6, 255, 9}},
		{all, api.Pixel{255, 255, 255, 0}, all},
	} {
		if got := Over(c.low, c.high); got != c.want {
			t.Errorf("P17.1: Over(%v, %v): %v, want %v", c.low, c.high, got, c.want)
		}
	}
}

func TestOverOfEach(t *testing.T) {
	for _, low := range somePixels() {
		for _, high := range somePixels() {
			checkOver(t, low, high)
		}
	}
	for a := range 256 {
		for b := range 256 {
			checkOver(t, api.Pixel{uint8(b), 9, uint8(255 - b), 200}, api.Pixel{7, uint8(b), 250, uint8(a)})
			checkOver(t, api.Pixel{1, uint8(a), 99, uint8(b)}, api.Pixel{uint8(b), 0, 128, uint8(a)})
		}
	}
	r := rand.New(rand.NewSource(4))
	for range 100000 {
		checkOver(t, somePixel(r), somePixel(r))
	}
}

func TestOverNothingAndOpaque(t *testing.T) {
	r := rand.New(rand.NewSource(5))
	for range 20000 {
		p, o := somePixel(r), somePixel(r)
		if Over(p, nothing) != p || Over(nothing, p) != p {
			t.Fatalf("P17.1: %v over nothing: %v, under it: %v", p, Over(nothing, p), Over(p, nothing))
		}
		o[3] = 255
		if got := Over(p, o); got != o {
			t.Fatalf("P17.1: Over(%v, %v): %v", p, o, got)
		}
	}
}

// noHows are numbers that are no way of matting.
func noHows() []int {
	return []int{0, -1, -2, 3, 4, 5, 255, 256, 257, 258, 1<<32 + 1, 1<<32 + 2, least, least + 1, least + 2, most, most - 1}
}

func TestMatteByHand(t *testing.T) {
	p := api.Pixel{100, 50, 1, 200}
	for _, c := range []struct {
		m               api.Pixel
		byAlpha, byLuma api.Pixel
	}{
		{nothing, nothing, nothing}, {all, p, p},
		{api.Pixel{0, 0, 0, 255}, p, nothing}, {api.Pixel{255, 255, 255, 0}, nothing, p},
		{api.Pixel{0, 0, 0, 128}, api.Pixel{50, 25, 1, 100}, nothing},
		{api.Pixel{255, 0, 0, 128}, api.Pixel{50, 25, 1, 100}, api.Pixel{30, 15, 0, 60}},  // luma 77
		{api.Pixel{0, 255, 0, 128}, api.Pixel{50, 25, 1, 100}, api.Pixel{58, 29, 1, 117}}, // luma 149
		{api.Pixel{0, 0, 255, 127}, api.Pixel{50, 25, 0, 100}, api.Pixel{11, 6, 0, 23}},   // luma 29
	} {
		if got := Matte(p, c.m, api.Alpha); got != c.byAlpha {
			t.Errorf("P17.1: Matte(%v, %v, Alpha): %v, want %v", p, c.m, got, c.byAlpha)
		}
		if got := Matte(p, c.m, api.Luma); got != c.byLuma {
			t.Errorf("P17.1: Matte(%v, %v, Luma): %v, want %v", p, c.m, got, c.byLuma)
		}
		for _, how := range noHows() {
			if got := Matte(p, c.m, how); got != p {
				t.Errorf("P17.1: Matte(%v, %v, %d): %v, want it as it was", p, c.m, how, got)
			}
		}
	}
}

func TestMatteOfEach(t *testing.T) {
	check := func(p, m api.Pixel, how int) {
		t.Helper()
		if got, want := Matte(p, m, how), wantMatte(p, m, how); got != want {
			t.Fatalf("P17.1: Matte(%v, %v, %d): %v, want %v", p, m, how, got, want)
		}
	}
	hows := append(noHows(), 1, 2)
	for _, p := range somePixels() {
		for _, m := range somePixels() {
			for _, how := range hows {
				check(p, m, how)
			}
		}
	}
	r := rand.New(rand.NewSource(6))
	for range 50000 {
		check(somePixel(r), somePixel(r), hows[r.Intn(len(hows))])
		check(somePixel(r), somePixel(r), 1+r.Intn(2))
	}
}

func TestSameAnswerAgain(t *testing.T) {
	r := rand.New(rand.NewSource(7))
	next := picker(r)
	for range 2000 {
		p, m, a, b := somePixel(r), somePixel(r), next(), next()
		c := api.Color(p)
		one := []api.Pixel{Of(c, a, b), Fade(p, a), Over(p, m), Matte(p, m, 1), Matte(p, m, 2), Matte(p, m, a)}
		n := []int{By(a, b), Strength(b)}
		// Others in between: nothing of them is kept.
		Of(api.Color(m), b, a)
		Over(m, p)
		Matte(m, p, 2)
		for i, again := range []api.Pixel{Of(c, a, b), Fade(p, a), Over(p, m), Matte(p, m, 1), Matte(p, m, 2), Matte(p, m, a)} {
			if again != one[i] {
				t.Fatalf("R4: answer %d of %v, %v, %d, %d: %v, and then %v", i, p, m, a, b, one[i], again)
			}
		}
		if By(a, b) != n[0] || Strength(b) != n[1] {
			t.Fatalf("R4: By(%d, %d), Strength(%d) are not the same again", a, b, b)
		}
	}
}
