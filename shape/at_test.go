package shape

import (
	"math"
	"math/rand"
	"slices"
	"testing"

	"mutoscope/api"
	"mutoscope/key"
	"mutoscope/path"
)

// wantAt takes key.At and path.At as their own tests prove them.
func wantAt(s api.Shape, t int64) api.Path {
	w, h := key.At(s.W, t, 0), key.At(s.H, t, 0)
	if s.Form == 0 {
		return wantRect(w, h)
	}
	if s.Form == 1 {
		return wantOval(w, h)
	}
	if s.Form == 2 {
		return wantStar(s.N, w, h)
	}
	if s.Form == 3 {
		return path.At(s.Paths, t)
	}
	return api.Path{}
}

// checkAt looks whether what is handed in stays as it was too, and a later answer as it must be, also when an answer is written into.
func checkAt(t *testing.T, s api.Shape, tick int64, want api.Path) {
	t.Helper()
	given, changed := guard(s)
	for range 2 {
		got := At(given, tick)
		if !like(got, want) {
			t.Fatalf("P13.2: At(%+v, %d): %v, want %v", s, tick, got, want)
		}
		if changed() {
			t.Fatalf("R2: At(%+v, %d) changed what was handed in", s, tick)
		}
		spoil(got)
		if changed() {
			t.Fatalf("R2: writing into At(%+v, %d) changed what was handed in", s, tick)
		}
	}
	if got := At(s, tick); !like(got, want) {
		t.Fatalf("R5: At(%+v, %d): %v, want %v without room behind the lists", s, tick, got, want)
	}
}

// picker: rows of numbers of any size, edges, right ones and small ones among them.
func picker(seed int64) func() int64 {
	r, list := rand.New(rand.NewSource(seed)), edges()
	return func() int64 {
		switch r.Intn(4) {
		case 0:
			return list[r.Intn(len(list))]
		case 1:
			return r.Int63n(2*near+1) - near
		case 2:
			return r.Int63n(20) - 10
		}
		return int64(r.Uint64()) >> r.Intn(63)
	}
}

// anyKeys: up to so many keys, in any order, with any how.
func anyKeys(r *rand.Rand, pick func() int64, upTo int) []api.Key {
	l := make([]api.Key, r.Intn(upTo+1))
	for i := range l {
		l[i] = api.Key{T: pick(), V: pick(), How: r.Intn(5) - 1}
		if r.Intn(3) == 0 {
			l[i].E = api.Ease{X1: pick(), Y1: pick(), X2: pick(), Y2: pick()}
		}
	}
	return l
}

// anyPathKeys: keys in any order, of paths that fit one another or not.
func anyPathKeys(r *rand.Rand, pick func() int64) []api.PathKey {
	l := make([]api.PathKey, r.Intn(4))
	n := r.Intn(6)
	for i := range l {
		p := api.Path{Closed: r.Intn(4) > 0, P: make([]api.Point, n+r.Intn(5)/4)}
		for j := range p.P {
			p.P[j] = at(pick(), pick())
		}
		l[i] = api.PathKey{T: pick(), Path: p, How: r.Intn(5) - 1}
	}
	return l
}

// wideKeys go from 20 at tick 0 straight to 60 at 10, and stand at 100 from 20 on.
func wideKeys() []api.Key {
	return []api.Key{{V: 20, How: api.Line}, {T: 10, V: 60}, {T: 20, V: 100}}
}

// highKeys go from 4 at tick 5 straight to 8 at 9.
func highKeys() []api.Key {
	return []api.Key{{T: 5, V: 4, How: api.Line}, {T: 9, V: 8}}
}

// What both rows tell, tick by tick, each by its own keys.
func TestAtOfTwoSizes(t *testing.T) {
	for _, c := range []struct{ t, w, h int64 }{
		{least, 20, 4}, {-1, 20, 4}, {0, 20, 4}, {1, 23, 4}, {2, 27, 4}, {5, 40, 4}, {6, 43, 5}, {7, 47, 6}, {8, 51, 7}, {9, 55, 8}, {10, 60, 8}, {11, 60, 8}, {19, 60, 8}, {20, 100, 8}, {21, 100, 8}, {most, 100, 8},
	} {
		s := api.Shape{W: wideKeys(), H: highKeys()}
		checkAt(t, s, c.t, wantRect(c.w, c.h))
		s.Form = api.Oval
		checkAt(t, s, c.t, wantOval(c.w, c.h))
		s.Form = api.Star
		for _, n := range []int{math.MinInt, -1, 0, 1, 2, 3, 7, 16, 17, math.MaxInt} {
			s.N = n
			checkAt(t, s, c.t, wantStar(n, c.w, c.h))
		}
		// The other way round: W is what is wide, and of a star what lies without.
		s = api.Shape{W: highKeys(), H: wideKeys()}
		checkAt(t, s, c.t, wantRect(c.h, c.w))
		s.Form = api.Oval
		checkAt(t, s, c.t, wantOval(c.h, c.w))
		s.Form, s.N = api.Star, 5
		checkAt(t, s, c.t, wantStar(5, c.h, c.w))
	}
}

// By hand, each with all its points.
func TestAtByHand(t *testing.T) {
	s := api.Shape{W: []api.Key{{V: 4, How: api.Line}, {T: 4, V: 12}}, H: []api.Key{{V: 4}}}
	checkAt(t, s, 2, ring(-4, -2, -4, -2, 4, -2, 4, -2, 4, -2, 4, 2, 4, 2, 4, 2, -4, 2, -4, 2, -4, 2, -4, -2, -4, -2))
	s = api.Shape{Form: api.Oval, W: []api.Key{{V: 16, How: api.Line}, {T: 4, V: 24}}, H: []api.Key{{V: 8}}}
	checkAt(t, s, 2, ring(10, 0, 10, 2, 5, 4, 0, 4, -5, 4, -10, 2, -10, 0, -10, -2, -5, -4, 0, -4, 5, -4, 10, -2, 10, 0))
	s = api.Shape{Form: api.Star, N: 2, W: []api.Key{{V: 8, How: api.Line}, {T: 4, V: 12}}, H: []api.Key{{V: 4}}}
	checkAt(t, s, 2, ring(0, -10, 0, -10, 4, 0, 4, 0, 4, 0, 0, 10, 0, 10, 0, 10, -4, 0, -4, 0, -4, 0, 0, -10, 0, -10))
	s = api.Shape{Form: api.Drawn, Paths: []api.PathKey{{Path: ring(0, 0, 10, 0, 20, 0, 30, 0), How: api.Line}, {T: 4, Path: ring(0, 8, 20, -8, 20, 1, 30, -1)}}}
	checkAt(t, s, 1, ring(0, 2, 12, -2, 20, 0, 30, -1))
}

// A missing row is 0, whatever the other one tells.
func TestAtOfNoKeys(t *testing.T) {
	for _, none := range [][]api.Key{nil, {}, numberRow(3)[:0]} {
		for _, tick := range []int64{least, -1, 0, 7, most} {
			checkAt(t, api.Shape{W: none, H: none}, tick, ring(make([]int64, 26)...))
			checkAt(t, api.Shape{Form: api.Oval, W: none, H: none}, tick, ring(make([]int64, 26)...))
			checkAt(t, api.Shape{Form: api.Star, N: 3, W: none, H: none}, tick, ring(make([]int64, 38)...))
			one := []api.Key{{T: 3, V: 20}}
			for form := api.Rect; form <= api.Star; form++ {
				checkAt(t, api.Shape{Form: form, W: one, H: none}, tick, wantForm(form, 20, 0))
				checkAt(t, api.Shape{Form: form, W: none, H: one}, tick, wantForm(form, 0, 20))
			}
		}
	}
	for _, none := range [][]api.PathKey{nil, {}, pathRow(3)[:0]} {
		for _, tick := range []int64{least, -1, 0, 7, most} {
			checkAt(t, api.Shape{Form: api.Drawn, Paths: none}, tick, api.Path{})
			checkAt(t, api.Shape{Form: api.Drawn, W: wideKeys(), H: highKeys(), N: 5, Paths: none}, tick, api.Path{})
		}
	}
}

// wantForm is of N 0.
func wantForm(form int, w, h int64) api.Path {
	return []api.Path{wantRect(w, h), wantOval(w, h), wantStar(0, w, h)}[form]
}

// There is nothing to draw of a form that there is not, whatever else is given.
func TestAtOfOtherForms(t *testing.T) {
	for _, form := range []int{math.MinInt, math.MinInt + 3, -1 << 32, 3 - 1<<32, -256, -253, -4, -3, -2, -1, 4, 5, 6, 7, 255, 256, 257, 258, 259, 1 << 16, 1<<16 + 2, 1 << 32, 1<<32 + 1, 1<<32 + 3, math.MaxInt} {
		for _, tick := range []int64{least, -1, 0, 1, 5, most} {
			checkAt(t, api.Shape{Form: form}, tick, api.Path{})
			checkAt(t, api.Shape{Form: form, N: 5, W: wideKeys(), H: highKeys(), Paths: pathRow(3)}, tick, api.Path{})
		}
	}
}

// What its form does not use, and what it is filled and drawn by, changes nothing; nor is a shape asked whether it is right.
func TestAtOfTheFormAlone(t *testing.T) {
	for form := api.Rect; form <= api.Drawn; form++ {
		s := api.Shape{Form: form, W: wideKeys(), H: highKeys(), Paths: pathRow(3)}
		if form == api.Star {
			s.N = 5
		}
		for _, tick := range []int64{-50, -39, 0, 3, 7, 30} {
			want := wantAt(s, tick)
			x := s
			x.Fill, x.Stroke, x.Line, x.Cap, x.Rule, x.Dash = true, true, api.Color{1, 2, 3, 4}, 9, -5, []int64{0, -1, 3}
			x.Paint = api.Paint{Kind: 7, P: at(least, most), R: -1}
			x.Colors, x.Width, x.From, x.To = make([]api.ColorKey, 40), make([]api.Key, 40), numberRow(50), numberRow(3)
			if form != api.Star {
				x.N = 99
			}
			checkAt(t, x, tick, want)
			if form == api.Drawn {
				x.W, x.H = nil, numberRow(99)
			} else {
				x.Paths = append(pathRow(40), api.PathKey{})
			}
			checkAt(t, x, tick, want)
		}
	}
}

// Keys that no document may have: in no order, of any how, more than MaxKeys.
func TestAtOfKeysInAnyOrder(t *testing.T) {
	l := []api.Key{{T: 5, V: 10, How: api.Line}, {T: 3, V: 20, How: api.Line}, {T: 11, V: 100, How: 7}, {T: 7, V: 30}}
	for _, c := range []struct{ t, v int64 }{{2, 10}, {3, 20}, {4, 30}, {5, 40}, {6, 50}, {7, 30}, {8, 30}, {9, 30}, {99, 30}} {
		for form := api.Rect; form <= api.Star; form++ {
			checkAt(t, api.Shape{Form: form, W: l, H: []api.Key{{V: 5}}}, c.t, wantForm(form, c.v, 5))
			checkAt(t, api.Shape{Form: form, W: []api.Key{{V: 5}}, H: l}, c.t, wantForm(form, 5, c.v))
		}
	}
	many := numberRow(1000)
	many[999].V = 77
	checkAt(t, api.Shape{W: many, H: many}, most, wantRect(77, 77))
	checkAt(t, api.Shape{Form: api.Oval, W: many, H: many}, least, wantOval(0, 0))
}

// Numbers past bounds: at the ends as they stand, in between as key.At holds them.
func TestAtFarOut(t *testing.T) {
	for _, a := range edges() {
		for _, b := range []int64{least, -great - 1, -7, 0, near + 1, most} {
			w := []api.Key{{T: -5, V: a, How: api.Line}, {T: 5, V: b, How: api.Line}}
			h := []api.Key{{T: b, V: b, How: api.Line}, {T: a, V: a, How: api.Line}}
			for _, tick := range []int64{least, a, b, -6, -5, -1, 0, 5, most} {
				for form := api.Rect; form <= api.Star; form++ {
					s := api.Shape{Form: form, N: 3, W: w, H: h}
					checkAt(t, s, tick, wantAt(s, tick))
				}
			}
			for form := api.Rect; form <= api.Star; form++ {
				s := api.Shape{Form: form, W: []api.Key{{V: a}}, H: []api.Key{{V: b}}}
				checkAt(t, s, 0, wantForm(form, a, b))
			}
		}
	}
}

// Drawn: from path to path, those of one key and those that do not fit too.
func TestAtOfDrawn(t *testing.T) {
	a, b := ring(0, 0, 100, 0, 0, 100, 100, 100), ring(40, 0, -100, 1, 0, 80, 7, 100)
	open := api.Path{P: slices.Clone(a.P)}
	two := []api.PathKey{{Path: a, How: api.Line}, {T: 4, Path: b, How: api.Line}}
	for _, c := range []struct {
		l    []api.PathKey
		t    int64
		want api.Path
	}{
		{two[:1], least, a}, {two[:1], 0, a}, {two[:1], 3, a}, {two[:1], most, a},
		{two, least, a}, {two, -1, a}, {two, 0, a}, {two, 1, ring(10, 0, 50, 0, 0, 95, 76, 100)}, {two, 2, ring(20, 0, 0, 0, 0, 90, 53, 100)}, {two, 3, ring(30, 0, -50, 0, 0, 85, 30, 100)}, {two, 4, b}, {two, 5, b}, {two, most, b},
		{[]api.PathKey{{Path: a, How: api.Curve, E: slow()}, {T: 4, Path: b}}, 1, ring(5, 0, 74, 0, 0, 97, 87, 100)},
		{[]api.PathKey{{Path: a}, {T: 4, Path: b}}, 3, a}, {[]api.PathKey{{Path: a, How: 9}, {T: 4, Path: b}}, 3, a},
		{[]api.PathKey{{Path: a, How: api.Line}, {T: 4, Path: open}}, 3, a}, {[]api.PathKey{{Path: a, How: api.Line}, {T: 4, Path: open}}, 4, open},
		{[]api.PathKey{{Path: a, How: api.Line}, {T: 4}}, 3, a}, {[]api.PathKey{{Path: a, How: api.Line}, {T: 4}}, 4, api.Path{}}, {[]api.PathKey{{T: 4}, {Path: a}, {T: 9, Path: b}}, 2, a},
		{[]api.PathKey{{Path: ring(least, most)}}, 5, ring(least, most)}, {[]api.PathKey{{Path: api.Path{Closed: true}}}, 5, api.Path{Closed: true}},
		{[]api.PathKey{{T: 5, Path: a, How: api.Line}, {T: 3, Path: b, How: api.Line}, {T: 7, Path: a}}, 4, ring(30, 0, -50, 0, 0, 85, 30, 100)},
	} {
		checkAt(t, api.Shape{Form: api.Drawn, Paths: c.l}, c.t, c.want)
		checkAt(t, api.Shape{Form: api.Drawn, Paths: c.l, N: 4, W: wideKeys(), H: highKeys()}, c.t, c.want)
	}
}

func TestAtOfAnyShape(t *testing.T) {
	r, pick := rand.New(rand.NewSource(3)), picker(4)
	for range 10000 {
		s := anyShape(r, pick)
		ticks := []int64{pick(), 0}
		for _, k := range s.W {
			ticks = append(ticks, k.T)
		}
		for _, k := range s.Paths {
			ticks = append(ticks, k.T)
		}
		for _, tick := range ticks {
			checkAt(t, s, tick, wantAt(s, tick))
		}
	}
	for _, s := range rightShapes() {
		for tick := int64(-50); tick < 70; tick++ {
			checkAt(t, s, tick, wantAt(s, tick))
		}
	}
}

// Lists of any length: what the last key tells holds behind it.
func TestAtOfLongLists(t *testing.T) {
	long := make([]api.Key, 1<<17)
	long[len(long)-1].V = 10
	checkAt(t, api.Shape{W: long, H: long}, 5, wantRect(10, 10))
	p := api.Path{P: make([]api.Point, 1<<17)}
	p.P[7] = at(8, 9)
	checkAt(t, api.Shape{Form: api.Drawn, Paths: []api.PathKey{{Path: p}}}, 5, p)
}

// R2: nothing of a shape is kept: answers of before stand, and once the shape has changed, answers are the new one's.
func TestAtNotKept(t *testing.T) {
	for form := api.Rect; form <= api.Drawn; form++ {
		s := fullShape(form)
		var first, was []api.Path
		for tick := int64(-45); tick < -25; tick++ {
			first, was = append(first, At(s, tick)), append(was, wantAt(s, tick))
		}
		for _, l := range [][]api.Key{s.W, s.H} {
			for i := range l {
				l[i].V = 99
			}
		}
		for _, k := range s.Paths {
			for i := range k.Path.P {
				k.Path.P[i] = at(99, -99)
			}
		}
		for i := range first {
			if !like(first[i], was[i]) {
				t.Fatalf("R2: form %d: answer %d became %v, was %v", form, i, first[i], was[i])
			}
			checkAt(t, s, int64(i)-45, wantAt(s, int64(i)-45))
		}
	}
}
