package doc

import (
	"math"
	"math/rand"
	"testing"

	"mutoscope/api"
)

// The reckoning goes down each way by itself, as often as it is nested.

func wantDeep(d api.Doc, comp int) int {
	if comp < 0 || comp >= len(d.Comps) {
		return 0
	}
	inner := 0
	for _, l := range d.Comps[comp].Layers {
		if l.Kind == 1 && l.Comp > comp {
			inner = max(inner, wantDeep(d, l.Comp))
		}
	}
	return inner + 1
}

func countNodes(d api.Doc, comp int) int {
	if comp < 0 || comp >= len(d.Comps) {
		return 0
	}
	n := 0
	for _, l := range d.Comps[comp].Layers {
		if l.Kind == 0 {
			n += 2
		}
		if l.Kind == 1 {
			n++
		}
		if l.Kind == 1 && l.Comp > comp {
			n += countNodes(d, l.Comp)
		}
	}
	return n
}

func wantNodes(d api.Doc, comp int) int { return min(countNodes(d, comp), 257) }

func checkNodes(t *testing.T, name string, d api.Doc, comp, nodes, deep int) {
	t.Helper()
	unchanged := guard(t, "Nodes, Deep: "+name, d)
	if got := Nodes(d, comp); got != nodes {
		t.Errorf("P18.2: Nodes(%s, %d): %d, want %d", name, comp, got, nodes)
	}
	if got := Deep(d, comp); got != deep {
		t.Errorf("P18.2: Deep(%s, %d): %d, want %d", name, comp, got, deep)
	}
	unchanged()
}

// chain is n comps, each one in the one ahead of it; the last one holds a drawing.
func chain(n int) api.Doc {
	var l []api.Comp
	for i := 1; i < n; i++ {
		l = append(l, comp(within(i)))
	}
	return made(append(l, comp(bare()))...)
}

// kind is a layer of that kind alone.
func kind(n int) api.Layer { return api.Layer{Kind: n, Comp: 1, Parent: -1, Out: 9} }

func TestNodesByHand(t *testing.T) {
	drawingOfComp := bare()
	drawingOfComp.Comp = 1
	// The first one nests the last one, and a chain of two beside it.
	sides := made(comp(within(3), within(1), bare()), comp(within(2)), comp(bare(), bare()), comp(bare()))
	ring := made(comp(within(0), within(1)), comp(within(0), bare(), within(1), within(-1), within(2)))
	for _, c := range []struct {
		name              string
		d                 api.Doc
		comp, nodes, deep int
	}{
		{"nothing", api.Doc{}, 0, 0, 0}, {"nothing", api.Doc{}, -1, 0, 0}, {"nothing", api.Doc{}, 1, 0, 0}, {"an empty list", made([]api.Comp{}...), 0, 0, 0},
		{"an empty comp", made(comp()), 0, 0, 1}, {"an empty comp", made(comp()), 1, 0, 0}, {"an empty comp", made(comp()), -1, 0, 0},
		{"a drawing", made(comp(bare())), 0, 2, 1}, {"three drawings", made(many(3, bare())), 0, 6, 1},
		{"a nested of none", made(comp(within(1))), 0, 1, 1}, {"an empty one in one", made(comp(within(1)), comp()), 0, 1, 2},
		{"one in one", made(comp(within(1)), comp(bare())), 0, 3, 2}, {"one in one", made(comp(within(1)), comp(bare())), 1, 2, 1},
		{"one in one twice", made(comp(within(1), within(1)), comp(bare())), 0, 6, 2},
		{"sides", sides, 0, 11, 3}, {"sides", sides, 1, 5, 2}, {"sides", sides, 2, 4, 1}, {"sides", sides, 3, 2, 1}, {"sides", sides, 4, 0, 0},
		{"a ring", ring, 0, 8, 2}, {"a ring", ring, 1, 6, 1},
		{"one that nests itself", made(comp(within(0), bare())), 0, 3, 1},
		{"a drawing with a Comp", made(comp(drawingOfComp), comp(bare())), 0, 2, 1},
		{"other kinds", made(comp(kind(2), kind(-1), kind(256), kind(math.MinInt), kind(math.MaxInt), kind(257)), comp(bare())), 0, 0, 1},
		{"a full layer of each kind", made(comp(drawing(), nested(1)), comp(drawing())), 0, 5, 2},
		{"128 drawings", made(many(128, bare())), 0, 256, 1}, {"129 drawings", made(many(129, bare())), 0, 257, 1}, {"500 drawings", made(many(500, bare())), 0, 257, 1},
		{"256 groups", made(many(256, within(1))), 0, 256, 1}, {"257 groups", made(many(257, within(1))), 0, 257, 1}, {"258 groups", made(many(258, within(1))), 0, 257, 1},
		{"256 in one", made(comp(within(1)), many(127, bare()), comp()), 0, 255, 2}, {"257 in one", made(comp(within(1)), many(128, bare())), 0, 257, 2},
		{"too many in one, and more", made(comp(bare(), within(1), within(1), bare()), many(300, bare())), 0, 257, 2},
		{"too many beside few", made(comp(within(2)), many(300, bare()), comp(bare())), 0, 3, 2},
		{"four", chain(4), 0, 5, 4}, {"four", chain(4), 1, 4, 3}, {"four", chain(4), 3, 2, 1}, {"nine", chain(9), 0, 10, 9},
	} {
		checkNodes(t, c.name, c.d, c.comp, c.nodes, c.deep)
		checkNodes(t, c.name+", with room", roomed(c.d), c.comp, c.nodes, c.deep)
	}
}

// TestNodesOfNone: comps that aren't there, and layers that hold such.
func TestNodesOfNone(t *testing.T) {
	for _, n := range []int{math.MinInt, math.MinInt + 1, -1 << 32, -2, -1, 4, 5, 1 << 32, 1<<32 + 1, math.MaxInt - 1, math.MaxInt} {
		checkNodes(t, "four", chain(4), n, 0, 0)
		checkNodes(t, "one of none", made(comp(within(n), bare()), comp(), comp(), comp()), 0, 3, 1)
		checkNodes(t, "one of none, behind", made(comp(), comp(), comp(), comp(within(n), bare())), 3, 3, 1)
	}
	for own := range 4 {
		for n := range own + 1 {
			d := made(many(1, bare()), many(2, bare()), many(3, bare()), many(4, bare()))
			d.Comps[own].Layers[0] = within(n)
			checkNodes(t, "one of its own comp or a lower one", d, own, 2*own+1, 1)
		}
	}
}

// TestNodesOfMany: thousands of comps in each other, which no call goes through one way after the other.
func TestNodesOfMany(t *testing.T) {
	const n = 5000
	var once, twice, all, back []api.Comp
	for i := range n {
		once = append(once, comp(within(i+1)))
		twice = append(twice, comp(within(i+1), within(i+1), within(i+2)))
		all = append(all, comp(within(i+1), within(n-1), within(i+n/2), within(0), within(i)))
		back = append(back, comp(within(i), within(0), within(i-1)))
	}
	for _, c := range []struct {
		name        string
		d           api.Doc
		comp        int
		nodes, deep int
	}{
		{"once", made(once...), 0, 257, n}, {"once", made(once...), n - 1, 1, 1}, {"once", made(once...), n - 256, 256, 256}, {"once", made(once...), n - 257, 257, 257},
		{"twice", made(twice...), 0, 257, n}, {"twice", made(twice...), n - 1, 3, 1}, {"twice", made(twice...), n - 2, 9, 2}, {"all", made(all...), 0, 257, n},
		{"back", made(back...), 0, 3, 1}, {"back", made(back...), n / 2, 3, 1}, {"back", made(back...), n - 1, 3, 1}, {"back", made(back...), n, 0, 0},
	} {
		checkNodes(t, c.name, c.d, c.comp, c.nodes, c.deep)
	}
}

// soundLayer is one of comp that may be, but for its Parent and its Matte: these hang on the others.
func soundLayer(r *rand.Rand, comp, comps, layers int) api.Layer {
	l := bare()
	if comp+1 < comps && r.Intn(2) == 0 {
		l = within(comp + 1 + r.Intn(comps-comp-1))
	}
	if r.Intn(8) == 0 {
		l.Parent = r.Intn(layers)
	}
	if r.Intn(12) == 0 {
		l.Matte = 1 + r.Intn(2)
	}
	if r.Intn(8) == 0 {
		l.X, l.Opacity, l.Mask = numbers(r.Intn(4)), numbers(r.Intn(3)), ring(1+r.Intn(4))
	}
	if l.Kind == api.Drawing && r.Intn(8) == 0 {
		l.Shape = drawing().Shape
	}
	return l
}

// anyLayer is one that may be, or isn't far from it.
func anyLayer(r *rand.Rand, comp, comps, layers int) api.Layer {
	l := soundLayer(r, comp, comps, layers)
	switch r.Intn(40) {
	case 0:
		l.Comp = r.Intn(comps+4) - 2
	case 1:
		l.Kind = r.Intn(5) - 1
	case 2:
		l.Out = l.In - int64(r.Intn(2))
	case 3:
		l.Turn = number(near + int64(r.Intn(2)))
	case 4:
		l.Parent = r.Intn(layers+4) - 2
	case 5:
		l.Matte = r.Intn(5) - 1
	}
	return l
}

// plainLayer is one that may be, whatever the others are.
func plainLayer(r *rand.Rand, comp, comps, layers int) api.Layer {
	l := soundLayer(r, comp, comps, layers)
	l.Parent, l.Matte = -1, 0
	return l
}

// anyDoc is one that may be, or isn't far from it.
func anyDoc(r *rand.Rand) api.Doc {
	d := api.Doc{In: int64(r.Intn(9)), Out: int64(8 + r.Intn(99))}
	if r.Intn(30) == 0 {
		d.Out = d.In - int64(r.Intn(2))
	}
	comps, most, layer := 1+r.Intn(7), 5, anyLayer
	if r.Intn(3) == 0 {
		comps, most, layer = 1+r.Intn(5), 12, plainLayer
	}
	if r.Intn(30) == 0 {
		comps = 9 * r.Intn(2)
	}
	for i := range comps {
		layers := r.Intn(most)
		if r.Intn(60) == 0 {
			layers = 16 + r.Intn(2)
		}
		var c api.Comp
		for range layers {
			c.Layers = append(c.Layers, layer(r, i, comps, layers))
		}
		d.Comps = append(d.Comps, c)
	}
	return d
}

// TestNodesOfAny: documents that are Right and not, from each of their comps on.
func TestNodesOfAny(t *testing.T) {
	r := rand.New(rand.NewSource(18))
	above, below := 0, 0
	for range 1500 {
		d := anyDoc(r)
		for comp := -1; comp <= len(d.Comps); comp++ {
			nodes := wantNodes(d, comp)
			if nodes > 256 {
				above++
			} else {
				below++
			}
			checkNodes(t, "any", d, comp, nodes, wantDeep(d, comp))
		}
	}
	if above < 50 || below < 1000 {
		t.Errorf("documents: %d of too many nodes, %d of not", above, below)
	}
}
