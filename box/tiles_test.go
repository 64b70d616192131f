package box

import (
	"math/rand"
	"slices"
	"testing"

	"mutoscope/api"
)

// rowOf are so many tiles of one row, from a column on.
func rowOf(row, from, n int) [][2]int {
	var out [][2]int
	for i := range n {
		out = append(out, [2]int{from + i, row})
	}
	return out
}

// columnOf are so many tiles of one column, from a row on.
func columnOf(column, from, n int) [][2]int {
	var out [][2]int
	for i := range n {
		out = append(out, [2]int{column, from + i})
	}
	return out
}

func all(columns, rows int) [][2]int {
	var out [][2]int
	for row := range rows {
		out = append(out, rowOf(row, 0, columns)...)
	}
	return out
}

// checkTiles looks whether an answer that is written into, its spare room too, changes a later one.
func checkTiles(t *testing.T, x api.Box, w, h int, want [][2]int) {
	t.Helper()
	for range 2 {
		got := Tiles(x, w, h)
		if !slices.Equal(got, want) {
			t.Fatalf("P14.1: Tiles(%v, %d, %d): %v, want %v", x, w, h, got, want)
		}
		whole := got[:cap(got)]
		for i := range whole {
			whole[i] = [2]int{-99, 12345}
		}
	}
}

// tilesCase: what Tiles answers of a box on a screen.
type tilesCase struct {
	b    api.Box
	w, h int
	want [][2]int
}

func checkCases(t *testing.T, l []tilesCase) {
	t.Helper()
	for _, c := range l {
		checkTiles(t, c.b, c.w, c.h, c.want)
	}
}

func TestTilesOnScreen(t *testing.T) {
	checkCases(t, []tilesCase{
		// In one tile: a pixel, all of it.
		{b(0, 0, 1, 1), 16, 16, [][2]int{{0, 0}}},
		{b(7, 7, 8, 8), 16, 16, [][2]int{{0, 0}}},
		{b(0, 0, 8, 8), 16, 16, [][2]int{{0, 0}}},
		{b(8, 0, 16, 8), 16, 16, [][2]int{{1, 0}}},
		{b(0, 8, 8, 16), 16, 16, [][2]int{{0, 1}}},
		{b(8, 8, 16, 16), 16, 16, [][2]int{{1, 1}}},
		{b(8, 8, 9, 9), 16, 16, [][2]int{{1, 1}}},
		{b(18, 27, 21, 30), 40, 40, [][2]int{{2, 3}}},
		// One pixel past a tile's edge, on each side, and one short of it.
		{b(0, 0, 9, 1), 16, 16, [][2]int{{0, 0}, {1, 0}}},
		{b(0, 0, 1, 9), 16, 16, [][2]int{{0, 0}, {0, 1}}},
		{b(0, 0, 7, 7), 16, 16, [][2]int{{0, 0}}},
		{b(7, 8, 16, 16), 16, 16, [][2]int{{0, 1}, {1, 1}}},
		{b(8, 7, 16, 16), 16, 16, [][2]int{{1, 0}, {1, 1}}},
		{b(9, 9, 15, 15), 16, 16, [][2]int{{1, 1}}},
		{b(8, 8, 17, 16), 24, 24, [][2]int{{1, 1}, {2, 1}}},
		{b(8, 8, 16, 17), 24, 24, [][2]int{{1, 1}, {1, 2}}},
		{b(8, 8, 16, 16), 24, 24, [][2]int{{1, 1}}},
		{b(15, 15, 17, 17), 24, 24, [][2]int{{1, 1}, {2, 1}, {1, 2}, {2, 2}}},
		// Over several: by row, then by column.
		{b(7, 7, 9, 9), 16, 16, [][2]int{{0, 0}, {1, 0}, {0, 1}, {1, 1}}},
		{b(0, 0, 24, 16), 24, 16, [][2]int{{0, 0}, {1, 0}, {2, 0}, {0, 1}, {1, 1}, {2, 1}}},
		{b(0, 0, 16, 24), 16, 24, [][2]int{{0, 0}, {1, 0}, {0, 1}, {1, 1}, {0, 2}, {1, 2}}},
		{b(10, 3, 30, 12), 40, 40, [][2]int{{1, 0}, {2, 0}, {3, 0}, {1, 1}, {2, 1}, {3, 1}}},
		{b(3, 10, 12, 30), 40, 40, [][2]int{{0, 1}, {1, 1}, {0, 2}, {1, 2}, {0, 3}, {1, 3}}},
		// Empty ones: of no width, of no height, turned round, on tiles' edges.
		{zero, 16, 16, nil}, {b(3, 3, 3, 9), 16, 16, nil}, {b(3, 3, 9, 3), 16, 16, nil}, {b(9, 3, 3, 9), 16, 16, nil}, {b(3, 9, 9, 3), 16, 16, nil}, {b(9, 9, 3, 3), 16, 16, nil},
		{b(8, 0, 8, 16), 16, 16, nil}, {b(0, 8, 16, 8), 16, 16, nil}, {b(8, 8, 8, 8), 16, 16, nil}, {b(16, 16, 0, 0), 16, 16, nil}, {b(12, 0, 11, 16), 16, 16, nil}, {b(0, 12, 16, 11), 16, 16, nil},
	})
}

func TestTilesOffScreen(t *testing.T) {
	checkCases(t, []tilesCase{
		// Partly off it: left, above, right, below, all round.
		{b(-9, 8, 1, 16), 24, 24, [][2]int{{0, 1}}},
		{b(8, -9, 16, 1), 24, 24, [][2]int{{1, 0}}},
		{b(23, 8, 99, 16), 24, 24, [][2]int{{2, 1}}},
		{b(8, 23, 16, 99), 24, 24, [][2]int{{1, 2}}},
		{b(-1, -1, 9, 9), 24, 24, [][2]int{{0, 0}, {1, 0}, {0, 1}, {1, 1}}},
		{b(-50, -50, 50, 50), 9, 17, [][2]int{{0, 0}, {1, 0}, {0, 1}, {1, 1}, {0, 2}, {1, 2}}},
		// Wholly off it: next to it, and a pixel further; on each side, over the corners.
		{b(-9, 0, 0, 24), 24, 24, nil}, {b(-9, 0, -1, 24), 24, 24, nil},
		{b(0, -9, 24, 0), 24, 24, nil}, {b(0, -9, 24, -1), 24, 24, nil},
		{b(24, 0, 33, 24), 24, 24, nil}, {b(25, 0, 33, 24), 24, 24, nil},
		{b(0, 24, 24, 33), 24, 24, nil}, {b(0, 25, 24, 33), 24, 24, nil},
		{b(-9, -9, 0, 0), 24, 24, nil}, {b(24, 24, 33, 33), 24, 24, nil}, {b(-9, 24, 0, 33), 24, 24, nil}, {b(24, -9, 33, 0), 24, 24, nil},
		// In the last tile, but past the screen's end; and its last pixel.
		{b(9, 0, 20, 20), 9, 9, nil}, {b(0, 9, 20, 20), 9, 9, nil}, {b(9, 9, 16, 16), 9, 9, nil},
		{b(8, 0, 20, 20), 9, 9, [][2]int{{1, 0}, {1, 1}}},
		{b(0, 8, 20, 20), 9, 9, [][2]int{{0, 1}, {1, 1}}},
		{b(8, 8, 20, 20), 9, 9, [][2]int{{1, 1}}},
		{b(-8, -8, -1, -1), 9, 9, nil}, {b(-1, -1, 0, 0), 9, 9, nil}, {b(-1, -1, 1, 1), 9, 9, [][2]int{{0, 0}}},
		// Far past it.
		{b(low, low, high, high), 17, 3, [][2]int{{0, 0}, {1, 0}, {2, 0}}},
		{b(low, low, high, high), 3, 17, [][2]int{{0, 0}, {0, 1}, {0, 2}}},
		{b(low, 0, high, 1), 17, 9, [][2]int{{0, 0}, {1, 0}, {2, 0}}},
		{b(0, low, 1, high), 9, 17, [][2]int{{0, 0}, {0, 1}, {0, 2}}},
		{b(low, low, 1, 1), 17, 17, [][2]int{{0, 0}}},
		{b(16, 16, high, high), 17, 17, [][2]int{{2, 2}}},
		{b(low, low, 0, 0), 17, 17, nil}, {b(low, low, low+1, low+1), 17, 17, nil}, {b(low, low, -1, high), 17, 17, nil}, {b(low, low, high, -1), 17, 17, nil},
		{b(17, low, high, high), 17, 17, nil}, {b(low, 17, high, high), 17, 17, nil}, {b(high-1, high-1, high, high), 17, 17, nil},
		{b(high, high, low, low), 17, 17, nil}, {b(high, low, low, high), 17, 17, nil}, {b(low, high, high, low), 17, 17, nil}, {b(low, low, low, high), 17, 17, nil}, {b(low, low, high, low), 17, 17, nil},
		// Numbers whose lower 32 bits, or lower 8, would lie on the screen.
		{b(1<<32, 0, 1<<32+9, 9), 17, 17, nil}, {b(0, 1<<32, 9, 1<<32+9), 17, 17, nil}, {b(-1<<32, 0, 1-1<<32, 9), 17, 17, nil},
		{b(256, 0, 265, 9), 17, 17, nil}, {b(0, 256, 9, 265), 17, 17, nil}, {b(-256, 0, -247, 9), 17, 17, nil},
	})
}

func TestTilesScreens(t *testing.T) {
	whole := b(low, low, high, high)
	checkCases(t, []tilesCase{
		// Of 1 pixel, of Tile, one less, one more, of two and one more or less.
		{whole, 1, 1, [][2]int{{0, 0}}}, {whole, 7, 7, [][2]int{{0, 0}}}, {whole, 8, 8, [][2]int{{0, 0}}},
		{whole, 9, 9, [][2]int{{0, 0}, {1, 0}, {0, 1}, {1, 1}}},
		{whole, 8, 9, [][2]int{{0, 0}, {0, 1}}}, {whole, 9, 8, [][2]int{{0, 0}, {1, 0}}}, {whole, 1, 9, [][2]int{{0, 0}, {0, 1}}}, {whole, 9, 1, [][2]int{{0, 0}, {1, 0}}},
		{whole, 15, 1, rowOf(0, 0, 2)}, {whole, 16, 1, rowOf(0, 0, 2)}, {whole, 17, 1, rowOf(0, 0, 3)},
		{whole, 1, 15, columnOf(0, 0, 2)}, {whole, 1, 16, columnOf(0, 0, 2)}, {whole, 1, 17, columnOf(0, 0, 3)},
		{b(0, 0, 1, 1), 1, 1, [][2]int{{0, 0}}}, {b(1, 0, 2, 1), 1, 1, nil}, {b(0, 1, 1, 2), 1, 1, nil}, {b(-1, 0, 0, 1), 1, 1, nil},
		// Of MaxSize, of one less, and one past it.
		{whole, 256, 256, all(32, 32)}, {whole, 255, 255, all(32, 32)}, {whole, 249, 248, all(32, 31)}, {whole, 248, 249, all(31, 32)},
		{whole, 256, 1, rowOf(0, 0, 32)}, {whole, 1, 256, columnOf(0, 0, 32)},
		{b(255, 255, 256, 256), 256, 256, [][2]int{{31, 31}}}, {b(0, 0, 1, 1), 256, 256, [][2]int{{0, 0}}}, {b(248, 0, 249, 256), 256, 256, columnOf(31, 0, 32)}, {b(0, 247, 256, 248), 256, 256, rowOf(30, 0, 32)},
		{b(256, 0, 300, 300), 256, 256, nil}, {b(0, 256, 300, 300), 256, 256, nil},
		{whole, 257, 256, nil}, {whole, 256, 257, nil}, {whole, 257, 257, nil}, {whole, 257, 1, nil}, {whole, 1, 257, nil}, {b(0, 0, 1, 1), 257, 257, nil},
		// At 0, below it, far past both.
		{whole, 0, 0, nil}, {whole, 0, 9, nil}, {whole, 9, 0, nil}, {whole, 0, 256, nil}, {whole, 256, 0, nil},
		{whole, -1, 9, nil}, {whole, 9, -1, nil}, {whole, -1, -1, nil}, {whole, -8, -8, nil}, {whole, -9, 9, nil}, {whole, 9, -9, nil},
		{b(-9, -9, 9, 9), -1, -1, nil}, {b(-9, 0, 9, 9), -1, 9, nil}, {b(0, -9, 9, 9), 9, -1, nil}, {b(-9, -9, -1, -1), -1, -1, nil},
		{whole, low, 9, nil}, {whole, 9, low, nil}, {whole, high, 9, nil}, {whole, 9, high, nil}, {whole, low, low, nil}, {whole, high, high, nil}, {whole, high, low, nil},
		{whole, 1<<32 + 9, 9, nil}, {whole, 9, 1<<32 + 9, nil}, {whole, 265, 9, nil}, {whole, 9, 265, nil}, {whole, 9 - 256, 9, nil},
		// Empty, on screens that may not be.
		{zero, 0, 0, nil}, {zero, 257, 257, nil}, {b(9, 9, 3, 3), -9, 0, nil},
	})
}

// wantTiles goes pixel by pixel.
func wantTiles(x api.Box, w, h int) [][2]int {
	var out [][2]int
	if w < 1 || w > 256 || h < 1 || h > 256 {
		return out
	}
	var some [32][32]bool
	for py := range h {
		for px := range w {
			if px >= x.X0 && px < x.X1 && py >= x.Y0 && py < x.Y1 {
				some[py/8][px/8] = true
			}
		}
	}
	for row := range some {
		for column, is := range some[row] {
			if is {
				out = append(out, [2]int{column, row})
			}
		}
	}
	return out
}

func TestTiles(t *testing.T) {
	r := rand.New(rand.NewSource(143))
	sizes := []int{1, 2, 7, 8, 9, 15, 16, 17, 31, 33, 100, 255, 256}
	wrong := []int{low, -256, -8, -1, 0, 257, 258, 512, high}
	size := func() int {
		if r.Intn(30) == 0 {
			return wrong[r.Intn(len(wrong))]
		}
		return sizes[r.Intn(len(sizes))]
	}
	number := func(size int) int {
		switch r.Intn(6) {
		case 0:
			return []int{low, low + 1, -1 << 32, -257, 257, 1 << 32, high - 1, high}[r.Intn(8)]
		case 1:
			return r.Intn(34)*8 - 8 + r.Intn(3) - 1
		case 2:
			return size/2*2 + r.Intn(5) - 2
		}
		return r.Intn(300) - 20
	}
	for range 6000 {
		w, h := size(), size()
		x := b(number(w), number(h), number(w), number(h))
		checkTiles(t, x, w, h, wantTiles(x, w, h))
	}
}

// TestTilesEachEdge asks of each two edges on a row, and on a column, of tiles.
func TestTilesEachEdge(t *testing.T) {
	for _, size := range []int{1, 7, 8, 9, 40, 41, 255, 256} {
		for from := -10; from < size+10; from++ {
			for to := -10; to < size+10; to++ {
				first, behind := max(from, 0), min(to, size)
				var row, column [][2]int
				for p := first; p < behind; p++ {
					if p == first || p%8 == 0 {
						row, column = append(row, [2]int{p / 8, 0}), append(column, [2]int{0, p / 8})
					}
				}
				if got := Tiles(b(from, 0, to, 1), size, 1); !slices.Equal(got, row) {
					t.Fatalf("P14.1: Tiles from X %d to %d of %d: %v, want %v", from, to, size, got, row)
				}
				if got := Tiles(b(0, from, 1, to), 1, size); !slices.Equal(got, column) {
					t.Fatalf("P14.1: Tiles from Y %d to %d of %d: %v, want %v", from, to, size, got, column)
				}
			}
		}
	}
}

// TestTilesLater keeps several answers side by side: none of them may share memory with another one.
func TestTilesLater(t *testing.T) {
	x := b(3, 3, 30, 30)
	first := Tiles(x, 40, 40)
	was := slices.Clone(first)
	second := Tiles(x, 40, 40)
	whole := second[:cap(second)]
	for i := range whole {
		whole[i] = [2]int{-1, -1}
	}
	if !slices.Equal(first, was) || !slices.Equal(Tiles(x, 40, 40), was) {
		t.Errorf("R2: writing into an answer of Tiles changed another one: %v, want %v", first, was)
	}
}
