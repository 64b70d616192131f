package doc

import (
	"math"
	"reflect"
	"slices"
	"strconv"
	"testing"

	"mutoscope/api"
)

const (
	one     = int64(api.One)
	near    = int64(api.Near)
	maxTick = int64(api.MaxTick)
	least   = int64(math.MinInt64)
	most    = int64(math.MaxInt64)
)

func at(x, y int64) api.Point { return api.Point{X: x, Y: y} }

func number(v int64) []api.Key { return []api.Key{{V: v}} }

// numbers: n keys, right for n up to MaxKeys.
func numbers(n int) []api.Key {
	l := make([]api.Key, n)
	for i := range l {
		l[i] = api.Key{T: int64(3*i - 40), V: int64(i*7) * one, How: api.Line}
	}
	return l
}

// ring is a closed path of straight parts, which goes through n places.
func ring(n int) api.Path {
	p := api.Path{Closed: true, P: []api.Point{at(0, 0)}}
	for i := range n {
		a := int64(i+1) * one
		p.P = append(p.P, at(a, -a), at(a, a), at(a+1, 2*a))
	}
	return p
}

func opened(p api.Path) api.Path {
	p.Closed = false
	return p
}

// bare is a drawing with no more in it than it must have.
func bare() api.Layer { return api.Layer{Parent: -1, Out: 9} }

// within is a layer that holds a comp.
func within(comp int) api.Layer {
	return api.Layer{Kind: api.Nested, Comp: comp, Parent: -1, Out: 9}
}

// moved is l with something in each field that both kinds may have something in.
func moved(l api.Layer) api.Layer {
	l.Matte, l.In, l.Out, l.Start = api.Alpha, -20, 30, 7
	l.X, l.Y, l.AX, l.AY = numbers(2), numbers(1), numbers(1), numbers(1)
	l.SX, l.SY, l.Turn, l.Opacity = numbers(1), numbers(2), numbers(1), numbers(1)
	l.Mask = ring(1)
	return l
}

func drawing() api.Layer {
	l := moved(bare())
	l.Shape = api.Shape{
		W: numbers(2), H: numbers(1), Fill: true, Rule: api.EvenOdd, Stroke: true, Line: api.Color{1, 2, 3, 4}, Cap: 1,
		Paint:  api.Paint{Kind: api.Radial, A: api.Color{9, 8, 7, 6}, B: api.Color{5, 4, 3, 2}, P: at(-5, 6), Q: at(7, -8), R: 3 * one},
		Colors: []api.ColorKey{{C: api.Color{255, 0, 0, 255}, How: api.Line}, {T: 4}}, Width: numbers(2), Dash: []int64{one, 2 * one}, From: numbers(1), To: numbers(2),
	}
	return l
}

func nested(comp int) api.Layer {
	l := moved(within(comp))
	l.Remap = numbers(2)
	return l
}

func drawn(n int) []api.PathKey {
	var l []api.PathKey
	for i := range n {
		l = append(l, api.PathKey{T: int64(5*i - 9), Path: ring(1), How: api.Line})
	}
	return l
}

func comp(l ...api.Layer) api.Comp { return api.Comp{Layers: l} }

func made(l ...api.Comp) api.Doc { return api.Doc{In: -50, Out: 50, Comps: l} }

func many(n int, l api.Layer) api.Comp { return comp(slices.Repeat([]api.Layer{l}, n)...) }

// fill puts into v what no document may have: so that whoever reads it answers otherwise.
func fill(v reflect.Value) {
	switch v.Kind() {
	case reflect.Struct:
		for i := range v.NumField() {
			fill(v.Field(i))
		}
		if l, is := v.Addr().Interface().(*api.Layer); is {
			l.Kind, l.Comp = api.Nested, 1
		}
	case reflect.Array:
		for i := range v.Len() {
			fill(v.Index(i))
		}
	case reflect.Slice:
		v.Set(reflect.MakeSlice(v.Type(), 2, 2))
		fill(v.Index(0))
		fill(v.Index(1))
	case reflect.Int, reflect.Int64:
		v.SetInt(most - 3)
	case reflect.Uint8:
		v.SetUint(251)
	case reflect.Bool:
		v.SetBool(true)
	}
}

// room lays each list of v anew, with filled room behind it: none stays nil.
func room(v reflect.Value) {
	switch v.Kind() {
	case reflect.Struct:
		for i := range v.NumField() {
			room(v.Field(i))
		}
	case reflect.Slice:
		n := v.Len()
		l := reflect.MakeSlice(v.Type(), n+2, n+2)
		reflect.Copy(l, v)
		for i := range n {
			room(l.Index(i))
		}
		fill(l.Index(n))
		fill(l.Index(n + 1))
		v.Set(l.Slice(0, n))
	}
}

// whole lays each list of v anew, the room behind it as a part of it.
func whole(v reflect.Value) {
	switch v.Kind() {
	case reflect.Struct:
		for i := range v.NumField() {
			whole(v.Field(i))
		}
	case reflect.Slice:
		if v.IsNil() {
			return
		}
		l := reflect.MakeSlice(v.Type(), v.Cap(), v.Cap())
		reflect.Copy(l, v.Slice(0, v.Cap()))
		for i := range l.Len() {
			whole(l.Index(i))
		}
		v.Set(l)
	}
}

// roomed is a with room behind each list, in memory of its own.
func roomed[T any](a T) T {
	room(reflect.ValueOf(&a).Elem())
	return a
}

// kept is all of a, the room behind its lists too, as it is now.
func kept[T any](a T) T {
	whole(reflect.ValueOf(&a).Elem())
	return a
}

// guard tells of a change of a, the room behind its lists too.
func guard[T any](t *testing.T, name string, a T) func() {
	was := kept(a)
	return func() {
		t.Helper()
		if !reflect.DeepEqual(kept(a), was) {
			t.Errorf("R2: %s: what was handed in is changed", name)
		}
	}
}

// checkLayer asks with room behind the lists too, where none of them is nil any more.
func checkLayer(t *testing.T, name string, l api.Layer, want bool) {
	t.Helper()
	for i, given := range []api.Layer{l, roomed(l)} {
		unchanged := guard(t, "Layer("+name+")", given)
		if got := Layer(given); got != want {
			t.Errorf("P18.1: Layer(%s): %v, want %v (with room: %v)", name, got, want, i == 1)
		}
		unchanged()
	}
}

// turn is a change of a layer, and what becomes of it. Two of one field can't be made together.
type turn struct {
	field string
	make  func(l *api.Layer)
	right bool
}

func TestLayerByHand(t *testing.T) {
	checkLayer(t, "bare", bare(), true)
	checkLayer(t, "within", within(3), true)
	checkLayer(t, "drawing", drawing(), true)
	checkLayer(t, "nested", nested(3), true)
	checkLayer(t, "nothing", api.Layer{}, false)
	checkLayer(t, "a nested nothing", api.Layer{Kind: api.Nested}, false)
}

// numberTurns are of the fields that are one number each.
func numberTurns() []turn {
	var out []turn
	for _, c := range []struct {
		n     int
		right bool
	}{{math.MinInt, false}, {-2, false}, {-1, false}, {0, true}, {1, true}, {2, true}, {3, false}, {256, false}, {1 << 32, false}, {math.MaxInt, false}} {
		out = append(out, turn{"Matte", func(l *api.Layer) { l.Matte = c.n }, c.right})
	}
	for _, n := range []int{math.MinInt, -2, -1, 2, 3, 256, 257, 1 << 32, 1<<32 + 1, math.MaxInt} {
		out = append(out, turn{"Kind", func(l *api.Layer) { l.Kind = n }, false})
	}
	// Layer says nothing of it: what is there hangs on the other layers.
	for _, n := range []int{math.MinInt, -2, -1, 0, 1, 15, 16, 99, math.MaxInt} {
		out = append(out, turn{"Parent", func(l *api.Layer) { l.Parent = n }, true})
	}
	for _, c := range []struct {
		n     int64
		right bool
	}{{least, false}, {-maxTick - 1, false}, {-maxTick, true}, {-1, true}, {0, true}, {maxTick, true}, {maxTick + 1, false}, {1 << 32, false}, {most, false}} {
		out = append(out, turn{"Start", func(l *api.Layer) { l.Start = c.n }, c.right})
	}
	for _, c := range []struct {
		in, out int64
		right   bool
	}{
		{0, 0, false}, {5, 5, false}, {5, 6, true}, {6, 5, false}, {-6, -5, true}, {-5, -6, false}, {-maxTick, maxTick, true},
		{-maxTick, -maxTick, false}, {-maxTick, -maxTick + 1, true}, {maxTick, maxTick, false}, {maxTick - 1, maxTick, true}, {maxTick, maxTick + 1, false},
		{-maxTick - 1, 0, false}, {-maxTick - 1, -maxTick, false}, {0, maxTick + 1, false}, {maxTick + 1, 0, false}, {0, -maxTick - 1, false},
		{least, most, false}, {least, 0, false}, {0, most, false}, {most, least, false}, {most, most, false}, {least, least, false},
	} {
		out = append(out, turn{"In, Out", func(l *api.Layer) { l.In, l.Out = c.in, c.out }, c.right})
	}
	return out
}

func maskTurns() []turn {
	far, off, low := ring(1), ring(1), ring(2)
	far.P[0], off.P[2].X, low.P[6].Y = at(near, -near), near+1, -near-1
	var out []turn
	for _, c := range []struct {
		p     api.Path
		right bool
	}{
		{api.Path{}, true}, {api.Path{P: []api.Point{}}, true}, {api.Path{Closed: true}, false}, {api.Path{Closed: true, P: []api.Point{}}, false},
		{ring(1), true}, {ring(32), true}, {ring(33), false}, {opened(ring(1)), false}, {opened(ring(32)), false}, {opened(ring(33)), false},
		{api.Path{Closed: true, P: make([]api.Point, 1)}, false}, {api.Path{P: make([]api.Point, 1)}, false}, {api.Path{Closed: true, P: make([]api.Point, 3)}, false},
		{api.Path{Closed: true, P: make([]api.Point, 5)}, false}, {api.Path{Closed: true, P: make([]api.Point, 4)}, true}, {api.Path{P: make([]api.Point, 4)}, false},
		{far, true}, {opened(far), false}, {off, false}, {low, false}, {api.Path{Closed: true, P: make([]api.Point, 100)}, false},
	} {
		out = append(out, turn{"Mask", func(l *api.Layer) { l.Mask = c.p }, c.right})
	}
	return out
}

type keyRow struct {
	l     []api.Key
	right bool
}

func keyRows() []keyRow {
	slow := api.Ease{X1: 27525, X2: 38011, Y2: one}
	return []keyRow{
		{nil, true}, {[]api.Key{}, true}, {number(0), true}, {numbers(32), true}, {numbers(33), false}, {numbers(200), false},
		{number(near), true}, {number(-near), true}, {number(near + 1), false}, {number(-near - 1), false}, {number(most), false}, {number(least), false},
		{[]api.Key{{T: maxTick}}, true}, {[]api.Key{{T: maxTick + 1}}, false}, {[]api.Key{{T: -maxTick}}, true}, {[]api.Key{{T: -maxTick - 1}}, false},
		{[]api.Key{{T: 1}, {T: 2}}, true}, {[]api.Key{{T: 2}, {T: 2}}, false}, {[]api.Key{{T: 3}, {T: 2}}, false},
		{[]api.Key{{How: -1}}, false}, {[]api.Key{{How: 3}}, false}, {[]api.Key{{How: api.Curve, E: slow}}, true}, {[]api.Key{{How: api.Line, E: slow}}, false},
		{[]api.Key{{How: api.Curve, E: api.Ease{X1: one + 1}}}, false}, {[]api.Key{{}, {T: 1}, {T: 2, V: near + 1}}, false},
	}
}

// field is one of the key lists of a layer.
type field struct {
	name string
	of   func(l *api.Layer) *[]api.Key
}

// moves are those of both kinds of layers.
func moves() []field {
	return []field{
		{"X", func(l *api.Layer) *[]api.Key { return &l.X }}, {"Y", func(l *api.Layer) *[]api.Key { return &l.Y }},
		{"AX", func(l *api.Layer) *[]api.Key { return &l.AX }}, {"AY", func(l *api.Layer) *[]api.Key { return &l.AY }},
		{"SX", func(l *api.Layer) *[]api.Key { return &l.SX }}, {"SY", func(l *api.Layer) *[]api.Key { return &l.SY }},
		{"Turn", func(l *api.Layer) *[]api.Key { return &l.Turn }}, {"Opacity", func(l *api.Layer) *[]api.Key { return &l.Opacity }},
	}
}

// shapeKeys are those of a drawing's shape.
func shapeKeys() []field {
	return []field{
		{"W", func(l *api.Layer) *[]api.Key { return &l.Shape.W }}, {"H", func(l *api.Layer) *[]api.Key { return &l.Shape.H }},
		{"Width", func(l *api.Layer) *[]api.Key { return &l.Shape.Width }},
		{"From", func(l *api.Layer) *[]api.Key { return &l.Shape.From }}, {"To", func(l *api.Layer) *[]api.Key { return &l.Shape.To }},
	}
}

func keyTurns(fields []field) []turn {
	var out []turn
	for _, f := range fields {
		for _, c := range keyRows() {
			out = append(out, turn{f.name, func(l *api.Layer) { *f.of(l) = c.l }, c.right})
		}
	}
	return out
}

// sharedTurns are those that say the same of a drawing and of a nested comp.
func sharedTurns() []turn { return slices.Concat(numberTurns(), maskTurns(), keyTurns(moves())) }

// drawingTurns are those that say something of a drawing alone.
func drawingTurns() []turn {
	var out []turn
	for _, n := range []int{math.MinInt, -1, 0, 1, 7, 256, 1 << 32, math.MaxInt} {
		out = append(out, turn{"Comp", func(l *api.Layer) { l.Comp = n }, n == 0})
	}
	for _, c := range keyRows() {
		out = append(out, turn{"Remap", func(l *api.Layer) { l.Remap = c.l }, len(c.l) == 0})
	}
	return slices.Concat(out, keyTurns(shapeKeys()), shapeTurns())
}

func shapeTurns() []turn {
	oval := func(l *api.Layer) { l.Shape.Form = api.Oval }
	star := func(n int) func(l *api.Layer) {
		return func(l *api.Layer) { l.Shape.Form, l.Shape.N = api.Star, n }
	}
	free := func(p []api.PathKey) func(l *api.Layer) {
		return func(l *api.Layer) { l.Shape.Form, l.Shape.W, l.Shape.H, l.Shape.Paths = api.Drawn, nil, nil, p }
	}
	closed := drawn(2)
	closed[1].Path.Closed = false
	return []turn{
		{"W H Form", oval, true}, {"W H Form", star(5), true}, {"W H Form", star(1), false}, {"W H Form", star(17), false},
		{"W H Form", free(nil), true}, {"W H Form", free(drawn(3)), true}, {"W H Form", free(drawn(33)), false}, {"W H Form", free(closed), false},
		{"W H Form", func(l *api.Layer) { l.Shape.Form, l.Shape.W = api.Drawn, number(0) }, false}, {"W H Form", func(l *api.Layer) { l.Shape.Paths = drawn(1) }, false},
		{"W H Form", func(l *api.Layer) { l.Shape.Form = 4 }, false}, {"W H Form", func(l *api.Layer) { l.Shape.N = 5 }, false},
		{"Rule", func(l *api.Layer) { l.Shape.Rule = api.NonZero }, true}, {"Rule", func(l *api.Layer) { l.Shape.Rule = 2 }, false},
		{"Cap", func(l *api.Layer) { l.Shape.Cap = 0 }, true}, {"Cap", func(l *api.Layer) { l.Shape.Cap = -1 }, false}, {"Cap", func(l *api.Layer) { l.Shape.Cap = 2 }, false},
		{"Paint", func(l *api.Layer) { l.Shape.Paint = api.Paint{} }, true}, {"Paint", func(l *api.Layer) { l.Shape.Paint.Kind = 3 }, false},
		{"Paint", func(l *api.Layer) { l.Shape.Paint.R = -near }, true}, {"Paint", func(l *api.Layer) { l.Shape.Paint.R = -near - 1 }, false},
		{"Paint", func(l *api.Layer) { l.Shape.Paint.P.X = near + 1 }, false}, {"Paint", func(l *api.Layer) { l.Shape.Paint.Q.Y = most }, false},
		{"Dash", func(l *api.Layer) { l.Shape.Dash = nil }, true}, {"Dash", func(l *api.Layer) { l.Shape.Dash = []int64{one - 1} }, false},
		{"Colors", func(l *api.Layer) { l.Shape.Colors = nil }, true}, {"Colors", func(l *api.Layer) { l.Shape.Colors = make([]api.ColorKey, 2) }, false},
		{"Fill", func(l *api.Layer) { l.Shape.Fill = false }, true}, {"Stroke", func(l *api.Layer) { l.Shape.Stroke = false }, true},
		{"Line", func(l *api.Layer) { l.Shape.Line = api.Color{} }, true},
	}
}

// nestedTurns are those that say something of a nested comp alone.
func nestedTurns() []turn {
	var out []turn
	// Which comps there are, the document tells.
	for _, n := range []int{math.MinInt, -1, 0, 1, 7, 8, 1 << 32, math.MaxInt} {
		out = append(out, turn{"Comp", func(l *api.Layer) { l.Comp = n }, true})
	}
	for _, c := range keyRows() {
		out = append(out, turn{"Remap", func(l *api.Layer) { l.Remap = c.l }, c.right})
	}
	var none api.Shape
	for i := range changes(reflect.ValueOf(&none).Elem(), "Shape") {
		out = append(out, turn{"Shape", func(l *api.Layer) { changes(reflect.ValueOf(&l.Shape).Elem(), "Shape")[i].make() }, false})
	}
	for i := range lists(reflect.ValueOf(&none).Elem(), "Shape") {
		out = append(out, turn{"Shape", func(l *api.Layer) {
			v := lists(reflect.ValueOf(&l.Shape).Elem(), "Shape")[i].v
			v.Set(reflect.MakeSlice(v.Type(), 0, 3))
		}, true})
	}
	full := drawing()
	return append(out, turn{"Shape", func(l *api.Layer) { l.Shape = full.Shape }, false})
}

func checkTurns(t *testing.T, name string, of func() api.Layer, turns []turn) {
	for i, c := range turns {
		l := of()
		c.make(&l)
		checkLayer(t, name+", "+c.field+", turn "+strconv.Itoa(i), l, c.right)
	}
}

// TestLayerFields: each field by itself, of a layer with something in each field and of one with nothing.
func TestLayerFields(t *testing.T) {
	all, plain := func() api.Layer { return nested(3) }, func() api.Layer { return within(3) }
	for _, turns := range [][]turn{sharedTurns(), drawingTurns()} {
		checkTurns(t, "drawing", drawing, turns)
		checkTurns(t, "bare", bare, turns)
	}
	for _, turns := range [][]turn{sharedTurns(), nestedTurns()} {
		checkTurns(t, "nested", all, turns)
		checkTurns(t, "within", plain, turns)
	}
}

// apart: whether both can be turned by themselves.
func apart(a, b turn) bool {
	const form = "W H Form"
	if a.field == form && (b.field == "W" || b.field == "H") || b.field == form && (a.field == "W" || a.field == "H") {
		return false
	}
	return a.field != b.field
}

// TestLayerPairs: of two fields each one is asked, whatever the other one says.
func TestLayerPairs(t *testing.T) {
	for _, c := range []struct {
		name string
		of   func() api.Layer
		own  []turn
	}{{"drawing", drawing, drawingTurns()}, {"nested", func() api.Layer { return nested(3) }, nestedTurns()}} {
		turns := append(sharedTurns(), c.own...)
		for i, a := range turns {
			for j := i%3 + 1; j < len(turns); j += 3 {
				if b := turns[j]; apart(a, b) {
					l := c.of()
					a.make(&l)
					b.make(&l)
					if got := Layer(l); got != (a.right && b.right) {
						t.Fatalf("P18.1: Layer(%s, turns %s %d and %s %d): %v", c.name, a.field, i, b.field, j, got)
					}
				}
			}
		}
	}
}

// TestLayerKinds: what may be of one kind may not be of the other one.
func TestLayerKinds(t *testing.T) {
	a, b := drawing(), nested(3)
	a.Kind, b.Kind = api.Nested, api.Drawing
	checkLayer(t, "a drawing called nested", a, false)
	checkLayer(t, "a nested called drawing", b, false)
	a.Shape = api.Shape{}
	checkLayer(t, "a drawing of nothing, called nested", a, true)
	b.Comp = 0
	checkLayer(t, "a nested of comp 0, called drawing, with Remap", b, false)
	b.Remap = nil
	checkLayer(t, "a nested of comp 0, called drawing", b, true)
}
