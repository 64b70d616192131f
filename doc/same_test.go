package doc

import (
	"cmp"
	"math/rand"
	"reflect"
	"slices"
	"strconv"
	"testing"

	"mutoscope/api"
)

// change is one of a thing by itself.
type change struct {
	name string
	make func()
}

// changes are all that can be changed of v by itself: each number (at both its ends), each yes or no, each list's length.
func changes(v reflect.Value, name string) []change {
	var out []change
	switch v.Kind() {
	case reflect.Struct:
		for i := range v.NumField() {
			out = append(out, changes(v.Field(i), name+"."+v.Type().Field(i).Name)...)
		}
	case reflect.Array:
		for i := range v.Len() {
			out = append(out, changes(v.Index(i), name+"["+strconv.Itoa(i)+"]")...)
		}
	case reflect.Slice:
		out = append(out, change{name + " longer", func() { v.Set(reflect.Append(v.Slice3(0, v.Len(), v.Len()), reflect.Zero(v.Type().Elem()))) }})
		if v.Len() > 0 {
			out = append(out, change{name + " shorter", func() { v.Set(v.Slice(0, v.Len()-1)) }})
			out = append(out, change{name + " without the first", func() { v.Set(v.Slice(1, v.Len())) }})
			out = append(out, change{name + " nil", func() { v.SetZero() }})
		}
		for i := range v.Len() {
			out = append(out, changes(v.Index(i), name+"["+strconv.Itoa(i)+"]")...)
		}
	case reflect.Int, reflect.Int64:
		out = append(out, change{name, func() { v.SetInt(v.Int() ^ 1) }}, change{name + " far", func() { v.SetInt(v.Int() ^ least) }})
	case reflect.Uint8:
		out = append(out, change{name, func() { v.SetUint(v.Uint() ^ 1) }}, change{name + " far", func() { v.SetUint(v.Uint() ^ 128) }})
	case reflect.Bool:
		out = append(out, change{name, func() { v.SetBool(!v.Bool()) }})
	}
	return out
}

func docChanges(d *api.Doc) []change { return changes(reflect.ValueOf(d).Elem(), "Doc") }

// list is one of the lists of a thing.
type list struct {
	name string
	v    reflect.Value
}

// lists are those of v, each one ahead of those within it.
func lists(v reflect.Value, name string) []list {
	var out []list
	switch v.Kind() {
	case reflect.Struct:
		for i := range v.NumField() {
			out = append(out, lists(v.Field(i), name+"."+v.Type().Field(i).Name)...)
		}
	case reflect.Slice:
		out = append(out, list{name, v})
		for i := range v.Len() {
			out = append(out, lists(v.Index(i), name+"["+strconv.Itoa(i)+"]")...)
		}
	}
	return out
}

func docLists(d *api.Doc) []list { return lists(reflect.ValueOf(d).Elem(), "Doc") }

// fullDoc has something in each field of each thing, whether it may be there or not.
func fullDoc() api.Doc {
	a, b, c := drawing(), drawing(), nested(1)
	a.Remap, a.Comp, b.Shape.Paths = numbers(2), 3, drawn(2)
	c.Shape = api.Shape{Form: api.Drawn, N: 4, Paths: drawn(1), Colors: make([]api.ColorKey, 2), Dash: []int64{7}}
	return api.Doc{In: -3, Out: 77, Comps: []api.Comp{comp(a, c), comp(b), comp(bare(), within(2))}}
}

func same(t *testing.T, name string, a, b api.Doc, want bool) {
	t.Helper()
	if got := Same(a, b); got != want {
		t.Errorf("P18.3: Same(%s): %v, want %v", name, got, want)
	}
	if got := Same(b, a); got != want {
		t.Errorf("P18.3: Same(%s, the other way round): %v, want %v", name, got, want)
	}
}

func TestSameByHand(t *testing.T) {
	a, b := made(comp(drawing(), nested(1)), comp(bare())), made(comp(drawing(), nested(1)), comp(bare()))
	same(t, "of one make", a, b, true)
	same(t, "itself", a, a, true)
	same(t, "nothing and nothing", api.Doc{}, api.Doc{}, true)
	same(t, "nothing and something", api.Doc{}, a, false)
	same(t, "no comp and an empty one", api.Doc{}, api.Doc{Comps: []api.Comp{{}}}, false)
	same(t, "no layer and one of nothing", made(comp()), made(comp(api.Layer{})), false)
	b.Comps[0].Layers[0].Shape.Paint.B[3]++
	same(t, "another B", a, b, false)
	same(t, "two comps, the other way round", made(comp(bare()), comp()), made(comp(), comp(bare())), false)
	same(t, "two layers, the other way round", made(comp(bare(), within(1))), made(comp(within(1), bare())), false)
}

// TestSameChanges: each thing of a document, by itself.
func TestSameChanges(t *testing.T) {
	was := fullDoc()
	for i := range docChanges(&was) {
		a := fullDoc()
		c := docChanges(&a)[i]
		c.make()
		same(t, c.name, a, was, false)
		same(t, c.name+", both", a, roomed(a), true)
	}
	if !reflect.DeepEqual(was, fullDoc()) {
		t.Error("R2: Same: what was handed in is changed")
	}
}

// TestSameEmpty: a list of none, nil and not.
func TestSameEmpty(t *testing.T) {
	was := fullDoc()
	for i := range docLists(&was) {
		a, b := fullDoc(), fullDoc()
		of, empty := docLists(&a)[i], docLists(&b)[i]
		of.v.SetZero()
		empty.v.Set(reflect.MakeSlice(empty.v.Type(), 0, 4))
		same(t, of.name+" nil and empty", a, b, true)
		none := docLists(&was)[i].v.Len() == 0
		same(t, of.name+" nil and full", a, was, none)
		same(t, of.name+" empty and full", b, was, none)
	}
}

// TestSameRoom: what lies behind a list is no part of it.
func TestSameRoom(t *testing.T) {
	for _, d := range []api.Doc{{}, made(), made(comp()), made(comp(bare())), fullDoc()} {
		a, b := roomed(d), roomed(d)
		for _, l := range docLists(&b) {
			l.v.Slice(0, l.v.Cap()).Index(l.v.Len()).SetZero()
		}
		unchangedA, unchangedB := guard(t, "Same, a", a), guard(t, "Same, b", b)
		same(t, "room", a, b, true)
		same(t, "room and none", a, d, true)
		unchangedA()
		unchangedB()
	}
}

// span is the memory of a list, the room behind it too.
type span struct {
	name     string
	from, to uintptr
}

func spans(d *api.Doc) []span {
	var out []span
	for _, l := range docLists(d) {
		if n := uintptr(l.v.Cap()) * l.v.Type().Elem().Size(); n > 0 {
			out = append(out, span{l.name, l.v.Pointer(), l.v.Pointer() + n})
		}
	}
	slices.SortFunc(out, func(a, b span) int { return cmp.Compare(a.from, b.from) })
	return out
}

// shares tells of two of l that lie in one memory; l is sorted.
func shares(l []span) string {
	for i := 1; i < len(l); i++ {
		if l[i].from < l[i-1].to {
			return l[i-1].name + " and " + l[i].name
		}
	}
	return ""
}

// checkCopy holds a copy of d against d: all the same, and none of it in d's memory, or twice in one.
func checkCopy(t *testing.T, name string, d api.Doc) {
	t.Helper()
	unchanged := guard(t, "Copy("+name+")", d)
	c := Copy(d)
	unchanged()
	if !alike(reflect.ValueOf(c), reflect.ValueOf(d)) {
		t.Errorf("P18.3: Copy(%s): something else", name)
	}
	own := spans(&c)
	if s := shares(own); s != "" {
		t.Errorf("R2: Copy(%s): %s share memory", name, s)
	}
	for _, given := range spans(&d) {
		for _, l := range own {
			if given.from < l.to && l.from < given.to {
				t.Fatalf("R2: Copy(%s): %s lies in the memory of %s that was handed in", name, l.name, given.name)
			}
		}
	}
}

// alike: the same in all, a nil list as an empty one.
func alike(a, b reflect.Value) bool {
	switch a.Kind() {
	case reflect.Struct:
		for i := range a.NumField() {
			if !alike(a.Field(i), b.Field(i)) {
				return false
			}
		}
		return true
	case reflect.Slice:
		if a.Len() != b.Len() {
			return false
		}
		for i := range a.Len() {
			if !alike(a.Index(i), b.Index(i)) {
				return false
			}
		}
		return true
	}
	return a.Interface() == b.Interface()
}

// knotted has lists that share memory with each other: one list twice, one within another one, one in the room behind another one.
func knotted() api.Doc {
	k := numbers(9)
	p := ring(5)
	a := drawing()
	a.X, a.Y, a.AX, a.AY = k, k, k[:3], k[3:]
	a.SX, a.SY, a.Turn, a.Opacity, a.Remap = k[:2], k[2:4], k[4:5], k[:0], k[9:]
	a.Mask = p
	a.Shape.W, a.Shape.H, a.Shape.Width, a.Shape.From, a.Shape.To = k, k[1:], k[:8], k[5:], k[2:3]
	a.Shape.Paths = []api.PathKey{{Path: p}, {T: 1, Path: p}, {T: 2, Path: api.Path{P: p.P[:4]}}}
	b := a
	b.Shape.Paths = a.Shape.Paths[1:]
	layers := []api.Layer{a, b, a, within(1), bare()}
	return api.Doc{Out: 5, Comps: []api.Comp{{Layers: layers}, {Layers: layers}, {Layers: layers[1:3]}, {Layers: layers[:2]}, {Layers: layers[:0]}, {}}}
}

func TestCopyByHand(t *testing.T) {
	for name, d := range map[string]api.Doc{"nothing": {}, "no comps": made(), "an empty comp": made(comp()), "bare": made(comp(bare())), "full": fullDoc(), "knotted": knotted(), "twice": made(comp(bare(), bare()), comp(), comp(nested(1)))} {
		checkCopy(t, name, d)
		checkCopy(t, name+", with room", roomed(d))
		checkCopy(t, name+", a copy", Copy(d))
	}
}

// TestCopyChanges: whatever is changed of the copy, the document stays, and the other way round.
func TestCopyChanges(t *testing.T) {
	was := fullDoc()
	for i := range docChanges(&was) {
		d := fullDoc()
		c := Copy(d)
		turned := docChanges(&c)[i]
		if turned.make(); !reflect.DeepEqual(d, was) {
			t.Errorf("R2: Copy: %s of the copy changes the document", turned.name)
		}
		if Same(c, d) {
			t.Errorf("P18.3: Same: %s of the copy is not told", turned.name)
		}
		c = Copy(d)
		turned = docChanges(&d)[i]
		if turned.make(); !reflect.DeepEqual(c, was) {
			t.Errorf("R2: Copy: %s of the document changes the copy", turned.name)
		}
	}
}

// TestCopyLists: each list of a copy, grown and filled by itself, leaves the others and the document as they were, those of one memory too.
func TestCopyLists(t *testing.T) {
	for _, of := range []func() api.Doc{fullDoc, knotted} {
		d := of()
		first := Copy(d)
		for i := range docLists(&first) {
			c := Copy(d)
			l := docLists(&c)[i]
			all := l.v.Slice(0, l.v.Cap())
			for j := range all.Len() {
				fill(all.Index(j))
			}
			if !reflect.DeepEqual(d, of()) {
				t.Errorf("R2: Copy: %s of the copy, filled, changes the document", l.name)
			}
			// With what it was laid back, nothing else may be another one.
			rest := docLists(&first)[i]
			l.v.Set(rest.v)
			if !alike(reflect.ValueOf(c), reflect.ValueOf(d)) {
				t.Errorf("R2: Copy: %s of the copy, filled, changes another list of it", l.name)
			}
		}
	}
}

// TestCopyDocs: documents of every make.
func TestCopyDocs(t *testing.T) {
	r := rand.New(rand.NewSource(18))
	for range 300 {
		d := anyDoc(r)
		checkCopy(t, "any", d)
		same(t, "any, copied", d, Copy(d), true)
		if !alike(reflect.ValueOf(d), reflect.ValueOf(roomed(d))) {
			t.Fatal("room is a part of what it lies behind")
		}
	}
}
