package shape

import (
	"math"
	"math/rand"
	"slices"
	"strconv"
	"testing"

	"mutoscope/api"
	"mutoscope/dash"
	"mutoscope/hue"
	"mutoscope/key"
	"mutoscope/path"
)

const maxTick = int64(api.MaxTick)

func slow() api.Ease { return api.Ease{X1: 27525, X2: 38011, Y2: one} }

// numberRow: n keys that are right for n up to MaxKeys.
func numberRow(n int) []api.Key {
	l := make([]api.Key, n)
	for i := range l {
		l[i] = api.Key{T: int64(3*i - 40), V: int64(i*7) * one, How: api.Line}
	}
	return l
}

func colorRow(n int) []api.ColorKey {
	l := make([]api.ColorKey, n)
	for i := range l {
		l[i] = api.ColorKey{T: int64(3*i - 40), C: api.Color{uint8(i), 255, 7, 0}, How: api.Line}
	}
	return l
}

func pathRow(n int) []api.PathKey {
	l := make([]api.PathKey, n)
	for i := range l {
		a := int64(i) * one
		l[i] = api.PathKey{T: int64(3*i - 40), Path: ring(a, 0, 10, a, 20, -a, 30, 0), How: api.Line}
	}
	return l
}

func dashRow(n int) []int64 {
	l := make([]int64, n)
	for i := range l {
		l[i] = int64(i+1) * one
	}
	return l
}

// fullShape has something in each field that a shape of that form may have something in.
func fullShape(form int) api.Shape {
	s := api.Shape{
		Form: form, Fill: true, Rule: api.EvenOdd, Stroke: true, Line: api.Color{1, 2, 3, 4}, Cap: 1,
		Paint:  api.Paint{Kind: api.Radial, A: api.Color{9, 8, 7, 6}, B: api.Color{5, 4, 3, 2}, P: at(-5, 6), Q: at(7, -8), R: 3 * one},
		Colors: colorRow(3), Width: numberRow(2), Dash: dashRow(3), From: numberRow(4), To: numberRow(5),
	}
	if form == api.Drawn {
		s.Paths = pathRow(3)
		return s
	}
	s.W, s.H = numberRow(3), numberRow(2)
	if form == api.Star {
		s.N = 5
	}
	return s
}

// rightShapes are those that a shape is turned from: of each form, full and bare, drawn and not.
func rightShapes() []api.Shape {
	var out []api.Shape
	for form := api.Rect; form <= api.Drawn; form++ {
		full, bare := fullShape(form), api.Shape{Form: form}
		if form == api.Star {
			bare.N = 2
		}
		for _, s := range []api.Shape{full, bare} {
			for _, drawn := range [][2]bool{{false, false}, {true, false}, {false, true}, {true, true}} {
				s.Fill, s.Stroke = drawn[0], drawn[1]
				out = append(out, s)
			}
		}
	}
	return out
}

// roomed is l with more behind it.
func roomed[T any](l []T, more ...T) []T {
	return append(slices.Clip(slices.Clone(l)), more...)[:len(l)]
}

// all is l with the room behind it.
func all[T any](l []T) []T { return l[:cap(l)] }

// guard hands s out with room behind each of its lists that is not right, and a copy of it; changed says whether any of it, the room too, is not as it was.
func guard(s api.Shape) (given api.Shape, changed func() bool) {
	bad := []api.Key{{T: least, V: most, How: -1, E: api.Ease{X1: -1}}, {T: least, V: most, How: 9}}
	given = s
	given.W, given.H, given.Width = roomed(s.W, bad...), roomed(s.H, bad...), roomed(s.Width, bad...)
	given.From, given.To = roomed(s.From, bad...), roomed(s.To, bad...)
	given.Colors = roomed(s.Colors, api.ColorKey{T: least, C: api.Color{3, 3, 3, 3}, How: 7})
	given.Dash = roomed(s.Dash, 0, least, most)
	given.Paths = roomed(s.Paths, api.PathKey{T: least, Path: ring(5, 5), How: 7})
	for i, k := range all(given.Paths) {
		given.Paths[:cap(given.Paths)][i].Path.P = roomed(k.Path.P, at(most, least), at(77, 7))
	}
	was := whole(given)
	return given, func() bool { return !likeShapes(whole(given), was) }
}

// likeShapes holds two shapes against each other, lists by what is in them.
func likeShapes(a, b api.Shape) bool {
	keys := slices.Equal(a.W, b.W) && slices.Equal(a.H, b.H) && slices.Equal(a.Width, b.Width) && slices.Equal(a.From, b.From) && slices.Equal(a.To, b.To)
	paths := slices.EqualFunc(a.Paths, b.Paths, func(x, y api.PathKey) bool {
		return x.T == y.T && x.How == y.How && x.E == y.E && like(x.Path, y.Path)
	})
	rest := a.Form == b.Form && a.N == b.N && a.Fill == b.Fill && a.Rule == b.Rule && a.Paint == b.Paint && a.Stroke == b.Stroke && a.Line == b.Line && a.Cap == b.Cap
	return keys && paths && rest && slices.Equal(a.Colors, b.Colors) && slices.Equal(a.Dash, b.Dash)
}

// whole is a copy of s in which the room behind its lists is a part of them.
func whole(s api.Shape) api.Shape {
	s.W, s.H, s.Width = slices.Clone(all(s.W)), slices.Clone(all(s.H)), slices.Clone(all(s.Width))
	s.From, s.To = slices.Clone(all(s.From)), slices.Clone(all(s.To))
	s.Colors, s.Dash, s.Paths = slices.Clone(all(s.Colors)), slices.Clone(all(s.Dash)), slices.Clone(all(s.Paths))
	for i := range s.Paths {
		s.Paths[i].Path.P = slices.Clone(all(s.Paths[i].Path.P))
	}
	return s
}

// checkRight looks whether what is handed in stays as it was too.
func checkRight(t *testing.T, name string, s api.Shape, want bool) {
	t.Helper()
	given, changed := guard(s)
	if got := Right(given); got != want {
		t.Fatalf("P13.2: Right, %s: %v, want %v: %+v", name, got, want, s)
	}
	if changed() {
		t.Fatalf("R2: Right, %s, changed what was handed in", name)
	}
	if got := Right(s); got != want {
		t.Fatalf("R5: Right, %s: %v, want %v without room behind the lists", name, got, want)
	}
}

// turn is a shape's one thing that is set anew, and whether the shape is right then.
type turn struct {
	name string
	set  func(*api.Shape)
	want bool
}

// checkTurns sets each of them in every right shape of those forms.
func checkTurns(t *testing.T, l []turn, forms ...int) {
	t.Helper()
	for _, s := range rightShapes() {
		if !slices.Contains(forms, s.Form) {
			continue
		}
		for _, c := range l {
			x := s
			c.set(&x)
			checkRight(t, "form "+strconv.Itoa(s.Form)+", "+c.name, x, c.want)
		}
	}
}

func each() []int { return []int{api.Rect, api.Oval, api.Star, api.Drawn} }

func TestRightShapes(t *testing.T) {
	for i, s := range rightShapes() {
		checkRight(t, "shape "+strconv.Itoa(i), s, true)
	}
	checkRight(t, "the zero shape", api.Shape{}, true)
}

// N is asked of the form, so each form is met with each N.
func TestRightFormAndN(t *testing.T) {
	for _, full := range []bool{false, true} {
		for _, form := range []int{math.MinInt, -1 << 32, -256, -4, -3, -2, -1, 0, 1, 2, 3, 4, 5, 6, 7, 255, 256, 258, 1 << 32, 1<<32 + 2, math.MaxInt} {
			for _, n := range counts() {
				s := api.Shape{Form: form, N: n}
				if full {
					s = fullShape(form)
					s.N = n
				}
				want := false
				switch form {
				case 0, 1, 3:
					want = n == 0
				case 2:
					want = n >= 2 && n <= 16
				}
				checkRight(t, "form "+strconv.Itoa(form)+", N "+strconv.Itoa(n), s, want)
			}
		}
	}
	for _, c := range []struct {
		form, n int
		want    bool
	}{
		{api.Star, 0, false}, {api.Star, 1, false}, {api.Star, 2, true}, {api.Star, 3, true}, {api.Star, 15, true}, {api.Star, 16, true}, {api.Star, 17, false}, {api.Star, -2, false},
		{api.Rect, -1, false}, {api.Rect, 0, true}, {api.Rect, 1, false}, {api.Rect, 2, false},
		{api.Oval, -1, false}, {api.Oval, 0, true}, {api.Oval, 1, false}, {api.Oval, 2, false},
		{api.Drawn, -1, false}, {api.Drawn, 0, true}, {api.Drawn, 1, false}, {api.Drawn, 2, false},
		{-1, 0, false}, {-1, 2, false}, {4, 0, false}, {4, 2, false},
	} {
		s := fullShape(c.form)
		s.N = c.n
		checkRight(t, "form "+strconv.Itoa(c.form)+", N "+strconv.Itoa(c.n), s, c.want)
	}
}

// Lists of the other kind: no size of what is drawn, no paths of what is not, right ones neither.
func TestRightListsOfTheForm(t *testing.T) {
	empty := []turn{
		{"no W", func(s *api.Shape) { s.W = nil }, true}, {"an empty W", func(s *api.Shape) { s.W = []api.Key{} }, true}, {"a W of room alone", func(s *api.Shape) { s.W = numberRow(3)[:0] }, true},
		{"no H", func(s *api.Shape) { s.H = nil }, true}, {"an empty H", func(s *api.Shape) { s.H = []api.Key{} }, true}, {"an H of room alone", func(s *api.Shape) { s.H = numberRow(3)[:0] }, true},
		{"no Paths", func(s *api.Shape) { s.Paths = nil }, true}, {"empty Paths", func(s *api.Shape) { s.Paths = []api.PathKey{} }, true}, {"Paths of room alone", func(s *api.Shape) { s.Paths = pathRow(3)[:0] }, true},
	}
	checkTurns(t, empty, each()...)
	some := func(drawn bool) []turn {
		return []turn{
			{"W", func(s *api.Shape) { s.W = numberRow(1) }, !drawn}, {"H", func(s *api.Shape) { s.H = numberRow(1) }, !drawn}, {"W and H", func(s *api.Shape) { s.W, s.H = numberRow(32), numberRow(32) }, !drawn},
			{"a zero key of W", func(s *api.Shape) { s.W = make([]api.Key, 1) }, !drawn}, {"a zero key of H", func(s *api.Shape) { s.H = make([]api.Key, 1) }, !drawn},
			{"Paths", func(s *api.Shape) { s.Paths = pathRow(1) }, drawn}, {"more Paths", func(s *api.Shape) { s.Paths = pathRow(32) }, drawn},
		}
	}
	checkTurns(t, some(true), api.Drawn)
	checkTurns(t, some(false), api.Rect, api.Oval, api.Star)
}

// keysAtBounds are rows of keys, the right ones at the bounds of what key.Right asks, the others past them.
func keysAtBounds() []struct {
	name string
	l    []api.Key
	want bool
} {
	return []struct {
		name string
		l    []api.Key
		want bool
	}{
		{"nil", nil, true}, {"empty", []api.Key{}, true}, {"one zero key", make([]api.Key, 1), true}, {"31", numberRow(31), true}, {"32", numberRow(32), true}, {"33", numberRow(33), false}, {"a thousand", numberRow(1000), false},
		{"32 with room", numberRow(40)[:32], true},
		{"V Near", []api.Key{{V: near}}, true}, {"V -Near", []api.Key{{V: -near}}, true}, {"V past Near", []api.Key{{V: near + 1}}, false}, {"V below -Near", []api.Key{{V: -near - 1}}, false}, {"V least", []api.Key{{V: least}}, false}, {"V most", []api.Key{{V: most}}, false},
		{"T at the ends", []api.Key{{T: -maxTick}, {T: maxTick}}, true}, {"T past MaxTick", []api.Key{{T: maxTick + 1}}, false}, {"T below -MaxTick", []api.Key{{T: -maxTick - 1}}, false},
		{"rising", []api.Key{{T: 4}, {T: 5}}, true}, {"of one tick", []api.Key{{T: 5}, {T: 5}}, false}, {"falling", []api.Key{{T: 5}, {T: 4}}, false},
		{"How of no kind", []api.Key{{How: 3}}, false}, {"How below 0", []api.Key{{How: -1}}, false}, {"curved", []api.Key{{How: api.Curve, E: slow()}}, true}, {"curved past One", []api.Key{{How: api.Curve, E: api.Ease{X1: one + 1}}}, false},
		{"an ease of a line", []api.Key{{How: api.Line, E: slow()}}, false}, {"the last one not right", append(numberRow(5), api.Key{T: 99, V: near + 1}), false},
	}
}

func TestRightKeys(t *testing.T) {
	var sizes, others []turn
	for _, c := range keysAtBounds() {
		l := c.l
		sizes = append(sizes, turn{"W: " + c.name, func(s *api.Shape) { s.W = l }, c.want}, turn{"H: " + c.name, func(s *api.Shape) { s.H = l }, c.want})
		others = append(others,
			turn{"Width: " + c.name, func(s *api.Shape) { s.Width = l }, c.want},
			turn{"From: " + c.name, func(s *api.Shape) { s.From = l }, c.want},
			turn{"To: " + c.name, func(s *api.Shape) { s.To = l }, c.want})
	}
	checkTurns(t, sizes, api.Rect, api.Oval, api.Star)
	checkTurns(t, others, each()...)
}

// Shares of an outline and widths may be any number of a document: no other bound is theirs.
func TestRightNumbersThatMeanLittle(t *testing.T) {
	for _, v := range []int64{-near, -one, -1, 0, 1, one, one + 1, 2 * one, near} {
		l := []api.Key{{V: v}}
		checkTurns(t, []turn{{"V " + strconv.FormatInt(v, 10), func(s *api.Shape) { s.Width, s.From, s.To = l, l, l }, true}}, each()...)
		checkTurns(t, []turn{{"V " + strconv.FormatInt(v, 10), func(s *api.Shape) { s.W, s.H = l, l }, true}}, api.Rect, api.Oval, api.Star)
	}
}

func TestRightPaths(t *testing.T) {
	line := func(p api.Path) api.PathKey { return api.PathKey{Path: p, How: api.Line} }
	long := func(n int) api.Path { return api.Path{Closed: true, P: make([]api.Point, n)} }
	var l []turn
	for _, c := range []struct {
		name string
		l    []api.PathKey
		want bool
	}{
		{"nil", nil, true}, {"empty", []api.PathKey{}, true}, {"32", pathRow(32), true}, {"33", pathRow(33), false}, {"32 with room", pathRow(40)[:32], true},
		{"an empty path", []api.PathKey{{}}, false}, {"an empty path behind others", append(pathRow(2), api.PathKey{T: 9}), false},
		{"1 point", []api.PathKey{line(long(1))}, false}, {"3 points", []api.PathKey{line(long(3))}, false}, {"4 points", []api.PathKey{line(long(4))}, true}, {"5 points", []api.PathKey{line(long(5))}, false}, {"7 points", []api.PathKey{line(long(7))}, true},
		{"97 points", []api.PathKey{line(long(97))}, true}, {"100 points", []api.PathKey{line(long(100))}, false},
		{"open", []api.PathKey{line(api.Path{P: make([]api.Point, 4)})}, true},
		{"X Near", []api.PathKey{line(ring(0, 0, near, 0, 0, 0, 0, 0))}, true}, {"X past Near", []api.PathKey{line(ring(0, 0, near+1, 0, 0, 0, 0, 0))}, false}, {"Y -Near", []api.PathKey{line(ring(0, 0, 0, 0, 0, 0, 0, -near))}, true}, {"Y below -Near", []api.PathKey{line(ring(0, 0, 0, 0, 0, 0, 0, -near-1))}, false},
		{"two that fit", []api.PathKey{line(long(7)), {T: 1, Path: long(7)}}, true}, {"two of unlike lengths", []api.PathKey{line(long(7)), {T: 1, Path: long(4)}}, false}, {"open and closed", []api.PathKey{line(long(4)), {T: 1, Path: api.Path{P: make([]api.Point, 4)}}}, false},
		{"of one tick", []api.PathKey{line(long(4)), line(long(4))}, false}, {"T past MaxTick", []api.PathKey{{T: maxTick + 1, Path: long(4)}}, false}, {"How 3", []api.PathKey{{Path: long(4), How: 3}}, false},
		{"an ease of a line", []api.PathKey{{Path: long(4), How: api.Line, E: slow()}}, false}, {"curved", []api.PathKey{{Path: long(4), How: api.Curve, E: slow()}}, true},
	} {
		paths := c.l
		l = append(l, turn{"Paths: " + c.name, func(s *api.Shape) { s.Paths = paths }, c.want})
	}
	checkTurns(t, l, api.Drawn)
}

func TestRightColors(t *testing.T) {
	var l []turn
	for _, c := range []struct {
		name string
		l    []api.ColorKey
		want bool
	}{
		{"nil", nil, true}, {"empty", []api.ColorKey{}, true}, {"1", make([]api.ColorKey, 1), true}, {"32", colorRow(32), true}, {"33", colorRow(33), false}, {"32 with room", colorRow(40)[:32], true},
		{"T at the ends", []api.ColorKey{{T: -maxTick}, {T: maxTick}}, true}, {"T past MaxTick", []api.ColorKey{{T: maxTick + 1}}, false}, {"T below -MaxTick", []api.ColorKey{{T: -maxTick - 1}}, false},
		{"of one tick", []api.ColorKey{{T: 1}, {T: 1}}, false}, {"falling", []api.ColorKey{{T: 1}, {}}, false}, {"How 3", []api.ColorKey{{How: 3}}, false}, {"How below 0", []api.ColorKey{{How: -1}}, false},
		{"curved", []api.ColorKey{{How: api.Curve, E: slow()}}, true}, {"an ease that stands", []api.ColorKey{{E: slow()}}, false}, {"curved below 0", []api.ColorKey{{How: api.Curve, E: api.Ease{X2: -1}}}, false},
	} {
		colors := c.l
		l = append(l, turn{"Colors: " + c.name, func(s *api.Shape) { s.Colors = colors }, c.want})
	}
	checkTurns(t, l, each()...)
}

// Numbers of a few kinds each: Rule, Kind, Cap; and those that look right where their tops are lost.
func TestRightKinds(t *testing.T) {
	var l []turn
	for _, n := range []int{math.MinInt, math.MinInt + 1, -1 << 32, 1 - 1<<32, -256, -255, -3, -2, -1, 0, 1, 2, 3, 4, 255, 256, 257, 1 << 16, 1 << 32, 1<<32 + 1, math.MaxInt} {
		name := strconv.Itoa(n)
		l = append(l,
			turn{"Rule " + name, func(s *api.Shape) { s.Rule = n }, n == 0 || n == 1},
			turn{"Cap " + name, func(s *api.Shape) { s.Cap = n }, n == 0 || n == 1},
			turn{"Kind " + name, func(s *api.Shape) { s.Paint.Kind = n }, n == 0 || n == 1 || n == 2})
	}
	checkTurns(t, l, each()...)
}

// Each of the paint's numbers is asked, whatever its kind leaves unused.
func TestRightPaintNumbers(t *testing.T) {
	numbers := []struct {
		name string
		of   func(*api.Shape) *int64
	}{
		{"P.X", func(s *api.Shape) *int64 { return &s.Paint.P.X }}, {"P.Y", func(s *api.Shape) *int64 { return &s.Paint.P.Y }},
		{"Q.X", func(s *api.Shape) *int64 { return &s.Paint.Q.X }}, {"Q.Y", func(s *api.Shape) *int64 { return &s.Paint.Q.Y }}, {"R", func(s *api.Shape) *int64 { return &s.Paint.R }},
	}
	var l []turn
	for _, x := range numbers {
		for _, c := range []struct {
			n    int64
			want bool
		}{
			{least, false}, {least + 1, false}, {-far, false}, {-near - 1, false}, {-near, true}, {1 - near, true}, {-one, true}, {-1, true}, {0, true},
			{1, true}, {one, true}, {near - 1, true}, {near, true}, {near + 1, false}, {far, false}, {1 << 32, false}, {1<<32 + 1, false}, {great, false}, {most, false},
		} {
			for kind := api.Solid; kind <= api.Radial; kind++ {
				name := x.name + " " + strconv.FormatInt(c.n, 10) + ", Kind " + strconv.Itoa(kind)
				l = append(l, turn{name, func(s *api.Shape) { s.Paint.Kind, *x.of(s) = kind, c.n }, c.want})
			}
		}
	}
	checkTurns(t, l, each()...)
}

func TestRightDash(t *testing.T) {
	var l []turn
	for _, c := range []struct {
		name string
		l    []int64
		want bool
	}{
		{"nil", nil, true}, {"empty", []int64{}, true}, {"room alone", dashRow(3)[:0], true}, {"1", dashRow(1), true}, {"7", dashRow(7), true}, {"8", dashRow(8), true}, {"9", dashRow(9), false}, {"8 with room", dashRow(20)[:8], true},
		{"One", []int64{one}, true}, {"below One", []int64{one - 1}, false}, {"Near", []int64{near}, true}, {"past Near", []int64{near + 1}, false}, {"0", []int64{0}, false}, {"below 0", []int64{-one}, false}, {"least", []int64{least}, false}, {"most", []int64{most}, false},
		{"the last one not right", append(dashRow(7), one-1), false}, {"the first one not right", append([]int64{near + 1}, dashRow(3)...), false},
	} {
		numbers := c.l
		l = append(l, turn{"Dash: " + c.name, func(s *api.Shape) { s.Dash = numbers }, c.want})
	}
	checkTurns(t, l, each()...)
}

// Colours and whether it is drawn may be anything.
func TestRightColoursOfAnyKind(t *testing.T) {
	var l []turn
	for _, c := range []api.Color{{}, {255, 255, 255, 255}, {255, 0, 0, 0}, {0, 0, 0, 1}, {1, 2, 3, 4}} {
		l = append(l, turn{"a colour", func(s *api.Shape) { s.Line, s.Paint.A, s.Paint.B = c, c, c }, true})
	}
	checkTurns(t, l, each()...)
}

// wantRight takes key.Right, path.Keys, hue.Right and dash.Right as their own tests prove them.
func wantRight(s api.Shape) bool {
	no := 0
	ask := func(right bool) {
		if !right {
			no++
		}
	}
	ask(s.Form >= 0 && s.Form < 4)
	if s.Form == 2 {
		ask(s.N > 1 && s.N < 17)
	} else {
		ask(s.N == 0)
	}
	if s.Form == 3 {
		ask(len(s.W) == 0)
		ask(len(s.H) == 0)
	} else {
		ask(len(s.Paths) == 0)
	}
	for _, l := range [][]api.Key{s.W, s.H, s.Width, s.From, s.To} {
		ask(key.Right(l))
	}
	ask(path.Keys(s.Paths))
	ask(s.Rule == 0 || s.Rule == 1)
	ask(s.Paint.Kind == 0 || s.Paint.Kind == 1 || s.Paint.Kind == 2)
	for _, n := range []int64{s.Paint.P.X, s.Paint.P.Y, s.Paint.Q.X, s.Paint.Q.Y, s.Paint.R} {
		ask(max(n, -near) == n && min(n, near) == n)
	}
	ask(hue.Right(s.Colors))
	ask(s.Cap == 0 || s.Cap == 1)
	ask(len(s.Dash) == 0 || dash.Right(s.Dash))
	return no == 0
}

// wrongs: one thing each that most shapes are wrong by.
func wrongs() []func(*api.Shape) {
	bad := []api.Key{{V: near + 1}}
	return []func(*api.Shape){
		func(s *api.Shape) { s.Form = 4 }, func(s *api.Shape) { s.Form = -1 }, func(s *api.Shape) { s.N = 1 }, func(s *api.Shape) { s.N = 17 },
		func(s *api.Shape) { s.W = bad }, func(s *api.Shape) { s.H = bad }, func(s *api.Shape) { s.W = numberRow(1) }, func(s *api.Shape) { s.Paths = pathRow(2) }, func(s *api.Shape) { s.Paths = pathRow(33) },
		func(s *api.Shape) { s.Rule = 2 }, func(s *api.Shape) { s.Paint.Kind = 3 }, func(s *api.Shape) { s.Paint.P.X = near + 1 }, func(s *api.Shape) { s.Paint.P.Y = least }, func(s *api.Shape) { s.Paint.Q.X = most },
		func(s *api.Shape) { s.Paint.Q.Y = -near - 1 }, func(s *api.Shape) { s.Paint.R = near + 1 }, func(s *api.Shape) { s.Colors = colorRow(33) }, func(s *api.Shape) { s.Width = bad }, func(s *api.Shape) { s.From = bad },
		func(s *api.Shape) { s.To = bad }, func(s *api.Shape) { s.Cap = 2 }, func(s *api.Shape) { s.Dash = []int64{1} }, func(s *api.Shape) { s.N = 2 }, func(s *api.Shape) { s.Form = api.Star },
	}
}

// Two wrong things do not make a right one.
func TestRightOfTwoTurns(t *testing.T) {
	for _, s := range rightShapes() {
		for _, first := range wrongs() {
			for _, second := range wrongs() {
				x := s
				first(&x)
				second(&x)
				checkRight(t, "two turns", x, wantRight(x))
			}
		}
	}
}

// anyShape: of any form, with lists in any order and numbers of any size.
func anyShape(r *rand.Rand, pick func() int64) api.Shape {
	keys := func() []api.Key { return anyKeys(r, pick, 4) }
	s := api.Shape{Form: r.Intn(6) - 1, N: r.Intn(20) - 1, Rule: r.Intn(3), Cap: r.Intn(3), W: keys(), H: keys(), Width: keys(), From: keys(), To: keys()}
	s.Paint = api.Paint{Kind: r.Intn(4), P: at(pick(), pick()), Q: at(pick(), pick()), R: pick()}
	for range r.Intn(3) {
		s.Dash = append(s.Dash, pick())
		s.Colors = append(s.Colors, api.ColorKey{T: pick(), How: r.Intn(4)})
	}
	s.Paths = anyPathKeys(r, pick)
	return s
}

func TestRightOfAnyShape(t *testing.T) {
	r, pick := rand.New(rand.NewSource(1)), picker(2)
	for range 10000 {
		s := anyShape(r, pick)
		checkRight(t, "any shape", s, wantRight(s))
	}
	// Lists that are longer than any that is right.
	big := api.Shape{W: make([]api.Key, 1<<20), Colors: make([]api.ColorKey, 1<<20), Dash: make([]int64, 1<<20)}
	checkRight(t, "long lists", big, false)
	big = api.Shape{Form: api.Drawn, Paths: make([]api.PathKey, 1<<20)}
	checkRight(t, "many paths", big, false)
	big = api.Shape{Form: api.Drawn, Paths: []api.PathKey{{Path: api.Path{P: make([]api.Point, 1<<20)}}}}
	checkRight(t, "a long path", big, false)
}

// R2: nothing of a shape is kept: once it has changed, the answer is the new one's.
func TestRightNotKept(t *testing.T) {
	s := fullShape(api.Rect)
	for range 2 {
		s.W[0].V = near
		checkRight(t, "right", s, true)
		s.W[0].V = near + 1
		checkRight(t, "not right any more", s, false)
	}
}
