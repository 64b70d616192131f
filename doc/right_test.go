package doc

import (
	"math"
	"math/rand"
	"slices"
	"strconv"
	"testing"

	"mutoscope/api"
)

// checkRight asks with room behind the lists too, where none of them is nil any more.
func checkRight(t *testing.T, name string, d api.Doc, want api.Errno) {
	t.Helper()
	for i, given := range []api.Doc{d, roomed(d)} {
		unchanged := guard(t, "Right("+name+")", given)
		if got := Right(given); got != want {
			t.Errorf("P18.2: Right(%s): %d, want %d (with room: %v)", name, got, want, i == 1)
		}
		unchanged()
	}
}

// parents is a comp of layers that have those.
func parents(l ...int) api.Comp {
	var c api.Comp
	for _, p := range l {
		a := bare()
		a.Parent = p
		c.Layers = append(c.Layers, a)
	}
	return c
}

// mattes is a comp of layers that have those.
func mattes(l ...int) api.Comp {
	var c api.Comp
	for _, m := range l {
		a := bare()
		a.Matte = m
		c.Layers = append(c.Layers, a)
	}
	return c
}

// short is a layer that Layer refuses.
func short() api.Layer {
	l := bare()
	l.Out = 0
	return l
}

func timed(in, out int64) api.Doc { return api.Doc{In: in, Out: out, Comps: []api.Comp{comp(bare())}} }

func TestRightSize(t *testing.T) {
	for _, n := range []int{0, 1, 2, 7, 8, 9, 10, 256, 257} {
		want := api.OK
		if n < 1 || n > 8 {
			want = api.ErrSize
		}
		checkRight(t, strconv.Itoa(n)+" comps", made(slices.Repeat([]api.Comp{comp(bare())}, n)...), want)
		checkRight(t, strconv.Itoa(n)+" empty comps", made(make([]api.Comp, n)...), want)
	}
	for _, n := range []int{0, 1, 15, 16, 17, 18, 256, 257} {
		want := api.OK
		if n > 16 {
			want = api.ErrSize
		}
		for i := range 8 {
			d := made(make([]api.Comp, 8)...)
			d.Comps[i] = many(n, bare())
			checkRight(t, strconv.Itoa(n)+" layers, comp "+strconv.Itoa(i), d, want)
		}
	}
	checkRight(t, "8 comps of 16 layers", made(slices.Repeat([]api.Comp{many(16, bare())}, 8)...), api.OK)
	checkRight(t, "nothing", api.Doc{}, api.ErrSize)
	checkRight(t, "no comps, In and Out right", api.Doc{In: 1, Out: 2}, api.ErrSize)
}

func TestRightSpan(t *testing.T) {
	for _, c := range []struct {
		in, out int64
		want    api.Errno
	}{
		{0, 1, api.OK}, {0, 0, api.ErrArg}, {5, 5, api.ErrArg}, {5, 4, api.ErrArg}, {-5, -4, api.OK}, {-4, -5, api.ErrArg},
		{-maxTick, maxTick, api.OK}, {-maxTick, -maxTick + 1, api.OK}, {maxTick - 1, maxTick, api.OK}, {maxTick, maxTick, api.ErrArg}, {-maxTick, -maxTick, api.ErrArg},
		{-maxTick - 1, 0, api.ErrArg}, {0, maxTick + 1, api.ErrArg}, {-maxTick - 1, maxTick + 1, api.ErrArg}, {maxTick, maxTick + 1, api.ErrArg}, {-maxTick - 1, -maxTick, api.ErrArg},
		{least, most, api.ErrArg}, {least, 0, api.ErrArg}, {0, most, api.ErrArg}, {most, least, api.ErrArg}, {1 << 32, 1<<32 + 5, api.ErrArg},
	} {
		checkRight(t, "In "+strconv.FormatInt(c.in, 10)+", Out "+strconv.FormatInt(c.out, 10), timed(c.in, c.out), c.want)
	}
}

func TestRightLayers(t *testing.T) {
	full := made(comp(drawing(), nested(1)), comp(bare(), nested(2)), comp(bare(), drawing(), within(3)), comp())
	full.Comps[0].Layers[0].Matte, full.Comps[0].Layers[0].Parent, full.Comps[0].Layers[1].Parent = 0, 1, -1
	checkRight(t, "full", full, api.OK)
	// Each place in which a wrong layer may stand.
	for i, c := range full.Comps {
		for k := range c.Layers {
			d := Copy(full)
			d.Comps[i].Layers[k].Turn = number(near + 1)
			checkRight(t, "a wrong layer", d, api.ErrKeys)
			d = Copy(full)
			d.Comps[i].Layers[k].Parent = k
			checkRight(t, "a layer that is its own parent", d, api.ErrTree)
		}
	}
	for i := range sharedTurns() {
		c := sharedTurns()[i]
		l := drawing()
		c.make(&l)
		want := api.ErrKeys
		if c.right {
			want = api.OK
		}
		if c.field != "Matte" && c.field != "Parent" {
			checkRight(t, c.field, made(comp(bare(), l)), want)
		}
	}
}

func TestRightParents(t *testing.T) {
	for i, c := range []struct {
		c    api.Comp
		want api.Errno
	}{
		{parents(-1), api.OK}, {parents(-1, -1), api.OK}, {parents(-1, 0), api.OK}, {parents(1, -1), api.OK}, {parents(-1, 0, 1, 2), api.OK}, {parents(1, 2, 3, -1), api.OK}, {parents(2, 2, -1, 2), api.OK},
		{parents(0), api.ErrTree}, {parents(-1, 1), api.ErrTree}, {parents(1, 0), api.ErrTree}, {parents(1, 2, 0), api.ErrTree}, {parents(3, 0, 1, 2), api.ErrTree}, {parents(-1, 2, 3, 1), api.ErrTree}, {parents(1, 2, 1), api.ErrTree},
		{parents(-2), api.ErrTree}, {parents(1), api.ErrTree}, {parents(-1, 2), api.ErrTree}, {parents(16), api.ErrTree}, {parents(-1, -2), api.ErrTree},
		{parents(math.MinInt), api.ErrTree}, {parents(math.MaxInt), api.ErrTree}, {parents(-1, 1<<32), api.ErrTree}, {parents(-1<<32 - 1), api.ErrTree}, {parents(1, -2), api.ErrTree}, {parents(1, 2), api.ErrTree},
		{parents(-1, 0, 1, 2, 3, 4, 5, 6, 7, 8, 9, 10, 11, 12, 13, 14), api.OK}, {parents(15, 0, 1, 2, 3, 4, 5, 6, 7, 8, 9, 10, 11, 12, 13, 14), api.ErrTree}, {parents(1, 2, 3, 4, 5, 6, 7, 8, 9, 10, 11, 12, 13, 14, 15, -1), api.OK}, {parents(1, 2, 3, 4, 5, 6, 7, 8, 9, 10, 11, 12, 13, 14, 15, 0), api.ErrTree}, {parents(1, 2, 3, 4, 5, 6, 7, 8, 9, 10, 11, 12, 13, 14, 15, 14), api.ErrTree},
	} {
		checkRight(t, "parents, case "+strconv.Itoa(i), made(c.c), c.want)
		checkRight(t, "parents of comp 1, case "+strconv.Itoa(i), made(comp(within(1)), c.c), c.want)
	}
}

// TestRightRings: a way into a ring is no fault of the layer that it begins at, so that a wrong layer ahead of the ring's is told.
func TestRightRings(t *testing.T) {
	for n := 1; n <= 12; n++ {
		// The first one leads into a ring of n, behind a wrong one.
		l := []int{2, -1}
		for i := range n {
			l = append(l, 2+(i+1)%n)
		}
		c := parents(l...)
		checkRight(t, "into a ring", made(c), api.ErrTree)
		c.Layers[1] = short()
		checkRight(t, "into a ring, past a wrong one", made(c), api.ErrKeys)
		// Each one of the ring comes back to itself: the first of them is told, ahead of the wrong one behind it.
		for turned := range n {
			var ring api.Comp
			for i := range n {
				ring.Layers = append(ring.Layers, parents((i + 1 + turned) % n).Layers[0])
			}
			ring.Layers = append(ring.Layers, short())
			checkRight(t, "a ring ahead of a wrong one", made(ring), api.ErrTree)
		}
	}
	// A way that ends where there is no such layer comes back nowhere: the layer that has such a parent is refused itself, later.
	for _, p := range []int{-2, 3, 99, math.MinInt, math.MaxInt} {
		c := parents(2, -1, p)
		checkRight(t, "past the end", made(c), api.ErrTree)
		c.Layers[1] = short()
		checkRight(t, "past the end, past a wrong one", made(c), api.ErrKeys)
	}
}

func TestRightMattes(t *testing.T) {
	for i, c := range []struct {
		c    api.Comp
		want api.Errno
	}{
		{mattes(0, 1), api.OK}, {mattes(0, 2), api.OK}, {mattes(0, 1, 0, 2), api.OK}, {mattes(0, 0, 1), api.OK}, {mattes(0, 1, 0), api.OK},
		{mattes(1), api.ErrTree}, {mattes(2), api.ErrTree}, {mattes(1, 0), api.ErrTree}, {mattes(0, 1, 1), api.ErrTree}, {mattes(0, 1, 2), api.ErrTree}, {mattes(0, 2, 1), api.ErrTree}, {mattes(0, 2, 2), api.ErrTree},
		{mattes(0, 1, 0, 1, 2), api.ErrTree}, {mattes(0, 0, 0, 1, 1), api.ErrTree}, {mattes(3), api.ErrKeys}, {mattes(0, 3), api.ErrKeys}, {mattes(-1), api.ErrKeys},
	} {
		checkRight(t, "mattes, case "+strconv.Itoa(i), made(c.c), c.want)
		// The last layer of the comp ahead is no matte.
		checkRight(t, "mattes of comp 1, case "+strconv.Itoa(i), made(comp(bare()), c.c), c.want)
	}
	cut := within(1)
	cut.Matte = api.Luma
	checkRight(t, "a nested cut by a drawing", made(comp(bare(), cut), comp()), api.OK)
	checkRight(t, "a nested cut by a nested", made(comp(within(1), cut), comp()), api.OK)
	checkRight(t, "a nested cut by a cut one", made(comp(bare(), cut, cut), comp()), api.ErrTree)
}

func TestRightNested(t *testing.T) {
	for own := range 5 {
		for n := -3; n < 8; n++ {
			d := made(make([]api.Comp, 5)...)
			d.Comps[own] = comp(bare(), within(n))
			want := api.ErrTree
			if n > own && n < 5 {
				want = api.OK
			}
			checkRight(t, "comp "+strconv.Itoa(n)+" in "+strconv.Itoa(own), d, want)
		}
	}
	for _, n := range []int{math.MinInt, -1 << 32, -1<<32 + 1, 1 << 32, 1<<32 + 1, math.MaxInt} {
		checkRight(t, "comp "+strconv.Itoa(n), made(comp(within(n)), comp()), api.ErrTree)
	}
	checkRight(t, "two that nest each other", made(comp(within(1)), comp(within(0))), api.ErrTree)
}

func TestRightOver(t *testing.T) {
	wide := func(c api.Comp, l ...api.Layer) api.Comp { return comp(slices.Concat(c.Layers, l)...) }
	for _, c := range []struct {
		name string
		d    api.Doc
		want api.Errno
	}{
		{"1 deep", chain(1), api.OK}, {"3 deep", chain(3), api.OK}, {"4 deep", chain(4), api.OK}, {"5 deep", chain(5), api.ErrOver}, {"8 deep", chain(8), api.ErrOver},
		{"5 deep, last an empty one", made(comp(within(1)), comp(within(2)), comp(within(3)), comp(within(4)), comp()), api.ErrOver},
		{"5 deep, by the first layer", made(comp(within(1), within(5)), comp(within(2), bare()), comp(within(3), bare()), comp(within(4), bare()), comp(), comp()), api.ErrOver},
		{"7 deep, but not from the first one", made(comp(bare()), comp(within(2)), comp(within(3)), comp(within(4)), comp(within(5)), comp(within(6)), comp(within(7)), comp()), api.OK},
		{"4 deep, over the others", made(comp(within(4)), comp(within(2)), comp(within(3)), comp(within(4)), comp(within(5)), comp(within(6)), comp()), api.OK},
		// 16 groups of 1 and 15: seven drawings, and a group of none.
		{"256 nodes", made(many(16, within(1)), wide(many(7, bare()), within(2)), comp()), api.OK},
		{"255 nodes", made(many(15, within(1)), many(8, bare())), api.OK},
		{"256 nodes, with a group", made(wide(many(15, within(1)), within(2)), many(8, bare()), comp()), api.OK},
		{"257 nodes", made(wide(many(15, within(1)), bare()), many(8, bare())), api.ErrOver},
		{"272 nodes", made(many(16, within(1)), many(8, bare())), api.ErrOver},
		{"272 nodes in another comp", made(comp(bare()), many(16, within(2)), many(8, bare())), api.OK},
		{"16 of 16 of 16", made(many(16, within(1)), many(16, within(2)), many(16, bare())), api.ErrOver},
		{"deep and many", made(many(16, within(1)), many(16, within(2)), many(16, within(3)), many(16, within(4)), many(16, bare())), api.ErrOver},
		{"deepest and most", made(many(16, within(1)), many(16, within(2)), many(16, within(3)), many(16, within(4)), many(16, within(5)), many(16, within(6)), many(16, within(7)), many(16, bare())), api.ErrOver},
	} {
		checkRight(t, c.name, c.d, c.want)
	}
}

// fault is what makes a document wrong by itself; those of the list below stand in the chapter's order.
type fault struct {
	name string
	make func(d *api.Doc)
	want api.Errno
}

// sound is a document that may be, with room for each fault.
func sound() api.Doc {
	cut := bare()
	cut.Matte = api.Alpha
	return made(comp(bare(), cut, within(1)), comp(bare(), cut, within(2)), comp(bare(), within(3), bare()), comp(bare(), cut, bare()), comp(), comp(bare(), cut, within(6)), comp(bare()))
}

func faults() []fault {
	out := []fault{
		{"too many comps", func(d *api.Doc) { d.Comps = append(d.Comps, comp(), comp()) }, api.ErrSize},
		{"too many layers", func(d *api.Doc) { d.Comps[3].Layers = append(d.Comps[3].Layers, many(17, bare()).Layers...) }, api.ErrSize},
		{"too many layers of the last", func(d *api.Doc) { d.Comps[6].Layers = append(d.Comps[6].Layers, many(17, bare()).Layers...) }, api.ErrSize},
		{"In too low", func(d *api.Doc) { d.In = -maxTick - 1 }, api.ErrArg},
		{"Out not above In", func(d *api.Doc) { d.Out = d.In }, api.ErrArg},
	}
	for _, place := range [][2]int{{0, 0}, {0, 1}, {0, 2}, {1, 0}, {1, 2}, {2, 1}, {3, 2}, {5, 0}, {5, 1}, {5, 2}, {6, 0}} {
		i, k := place[0], place[1]
		at := ", layer " + strconv.Itoa(k) + " of " + strconv.Itoa(i)
		out = append(out, fault{"wrong keys" + at, func(d *api.Doc) { d.Comps[i].Layers[k].AY = number(near + 1) }, api.ErrKeys})
		if k == 0 {
			out = append(out, fault{"a first matte" + at, func(d *api.Doc) { d.Comps[i].Layers[k].Matte = api.Luma }, api.ErrTree})
		}
		if sound().Comps[i].Layers[k].Kind == api.Nested {
			out = append(out, fault{"a lower comp" + at, func(d *api.Doc) { d.Comps[i].Layers[k].Comp = i }, api.ErrTree})
		}
		out = append(out, fault{"no such parent" + at, func(d *api.Doc) { d.Comps[i].Layers[k].Parent = -2 }, api.ErrTree})
	}
	return append(out,
		fault{"too deep", func(d *api.Doc) { d.Comps[3].Layers = append(d.Comps[3].Layers, within(4)) }, api.ErrOver},
		fault{"too many nodes", func(d *api.Doc) {
			d.Comps[0].Layers = append(d.Comps[0].Layers, many(13, within(1)).Layers...)
			d.Comps[3].Layers = append(d.Comps[3].Layers, bare(), bare())
		}, api.ErrOver})
}

// TestRightOrder: of each two faults the first one by the chapter's order is told.
func TestRightOrder(t *testing.T) {
	checkRight(t, "sound", sound(), api.OK)
	l := faults()
	for i, a := range l {
		d := sound()
		a.make(&d)
		checkRight(t, a.name, d, a.want)
		for _, b := range l[i+1:] {
			d, turned := sound(), sound()
			a.make(&d)
			b.make(&d)
			b.make(&turned)
			a.make(&turned)
			checkRight(t, a.name+"; "+b.name, d, a.want)
			checkRight(t, b.name+", then "+a.name, turned, a.want)
		}
	}
}

// The reckoning gathers each refusal that applies, with its place in the order, and takes the first one.

type refusal struct {
	rank int
	e    api.Errno
}

func wantRight(d api.Doc) api.Errno {
	var l []refusal
	if len(d.Comps) == 0 || len(d.Comps) > 8 {
		l = append(l, refusal{0, api.ErrSize})
	}
	if d.In < -maxTick || d.In > maxTick || d.Out < -maxTick || d.Out > maxTick || d.Out <= d.In {
		l = append(l, refusal{1, api.ErrArg})
	}
	for i, c := range d.Comps {
		if len(c.Layers) > 16 {
			l = append(l, refusal{0, api.ErrSize})
		}
		for k, a := range c.Layers {
			if !Layer(a) {
				l = append(l, refusal{1000*i + 2*k + 2, api.ErrKeys})
			}
			lost := a.Kind == 1 && (a.Comp <= i || a.Comp >= len(d.Comps))
			uncut := a.Matte != 0 && (k == 0 || c.Layers[max(k-1, 0)].Matte != 0)
			if lost || uncut || !wantParent(c.Layers, k) {
				l = append(l, refusal{1000*i + 2*k + 3, api.ErrTree})
			}
		}
	}
	if wantDeep(d, 0) > 4 || countNodes(d, 0) > 256 {
		l = append(l, refusal{math.MaxInt, api.ErrOver})
	}
	if len(l) == 0 {
		return api.OK
	}
	return slices.MinFunc(l, func(a, b refusal) int { return a.rank - b.rank }).e
}

// wantParent marks the layers on the way, till there is none or one is marked already.
func wantParent(l []api.Layer, k int) bool {
	p := l[k].Parent
	if p == -1 {
		return true
	}
	if p < 0 || p >= len(l) {
		return false
	}
	met := map[int]bool{}
	for p >= 0 && p < len(l) && !met[p] {
		met[p] = true
		p = l[p].Parent
	}
	return !met[k]
}

// TestRightParentsAll: all rows of parents of few layers, with a wrong layer at each place.
func TestRightParentsAll(t *testing.T) {
	for n := 1; n <= 4; n++ {
		row := slices.Repeat([]int{-2}, n)
		for {
			for wrong := -1; wrong < n; wrong++ {
				c := parents(row...)
				if wrong >= 0 {
					c.Layers[wrong].Out = 0
				}
				if got, want := Right(made(c)), wantRight(made(c)); got != want {
					t.Fatalf("P18.2: Right(parents %v, wrong %d): %d, want %d", row, wrong, got, want)
				}
			}
			i := 0
			for ; i < n && row[i] == n; i++ {
				row[i] = -2
			}
			if i == n {
				break
			}
			row[i]++
		}
	}
}

// TestRightMattesAll: all rows of mattes of few layers.
func TestRightMattesAll(t *testing.T) {
	for n := range 243 {
		row := []int{n % 3, n / 3 % 3, n / 9 % 3, n / 27 % 3, n / 81}
		want := api.OK
		for i, m := range row {
			if m != 0 && (i == 0 || row[i-1] != 0) {
				want = api.ErrTree
			}
		}
		if got := Right(made(mattes(row...))); got != want {
			t.Errorf("P18.2: Right(mattes %v): %d, want %d", row, got, want)
		}
	}
}

func TestRightOfAny(t *testing.T) {
	r := rand.New(rand.NewSource(2))
	seen := map[api.Errno]int{}
	for range 20000 {
		d := anyDoc(r)
		want := wantRight(d)
		seen[want]++
		if got := Right(d); got != want {
			t.Fatalf("P18.2: Right(%v): %d, want %d", d, got, want)
		}
	}
	for _, e := range []api.Errno{api.OK, api.ErrSize, api.ErrArg, api.ErrKeys, api.ErrTree, api.ErrOver} {
		if seen[e] < 50 {
			t.Errorf("documents: %d of refusal %d", seen[e], e)
		}
	}
}
