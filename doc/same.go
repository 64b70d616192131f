package doc

import (
	"slices"

	"mutoscope/api"
	"mutoscope/path"
)

// Same says whether a and b are one document.
func Same(a, b api.Doc) bool {
	return a.In == b.In && a.Out == b.Out && slices.EqualFunc(a.Comps, b.Comps, sameComp)
}

// Copy is d with memory of its own throughout.
func Copy(d api.Doc) api.Doc {
	d.Comps = copied(d.Comps)
	for i := range d.Comps {
		d.Comps[i] = copyComp(d.Comps[i])
	}
	return d
}

func sameComp(a, b api.Comp) bool { return slices.EqualFunc(a.Layers, b.Layers, sameLayer) }

func sameLayer(a, b api.Layer) bool {
	if a.Kind != b.Kind || a.Parent != b.Parent || a.Comp != b.Comp || a.Matte != b.Matte {
		return false
	}
	if a.In != b.In || a.Out != b.Out || a.Start != b.Start {
		return false
	}
	return sameMoves(a, b) && path.Same(a.Mask, b.Mask) && sameShape(a.Shape, b.Shape)
}

func sameMoves(a, b api.Layer) bool {
	place := slices.Equal(a.X, b.X) && slices.Equal(a.Y, b.Y) && slices.Equal(a.AX, b.AX) && slices.Equal(a.AY, b.AY)
	size := slices.Equal(a.SX, b.SX) && slices.Equal(a.SY, b.SY) && slices.Equal(a.Turn, b.Turn)
	return place && size && slices.Equal(a.Opacity, b.Opacity) && slices.Equal(a.Remap, b.Remap)
}

func sameShape(a, b api.Shape) bool { return sameOutline(a, b) && sameFill(a, b) && sameLine(a, b) }

func sameOutline(a, b api.Shape) bool {
	if a.Form != b.Form || a.N != b.N {
		return false
	}
	return slices.Equal(a.W, b.W) && slices.Equal(a.H, b.H) && slices.EqualFunc(a.Paths, b.Paths, samePathKey)
}

func samePathKey(a, b api.PathKey) bool {
	return a.T == b.T && a.How == b.How && a.E == b.E && path.Same(a.Path, b.Path)
}

func sameFill(a, b api.Shape) bool {
	return a.Fill == b.Fill && a.Rule == b.Rule && a.Paint == b.Paint && slices.Equal(a.Colors, b.Colors)
}

func sameLine(a, b api.Shape) bool {
	if a.Stroke != b.Stroke || a.Line != b.Line || a.Cap != b.Cap {
		return false
	}
	return slices.Equal(a.Width, b.Width) && slices.Equal(a.Dash, b.Dash) && slices.Equal(a.From, b.From) && slices.Equal(a.To, b.To)
}

func copyComp(c api.Comp) api.Comp {
	c.Layers = copied(c.Layers)
	for i := range c.Layers {
		c.Layers[i] = copyLayer(c.Layers[i])
	}
	return c
}

func copyLayer(l api.Layer) api.Layer {
	l.X, l.Y, l.AX, l.AY = copied(l.X), copied(l.Y), copied(l.AX), copied(l.AY)
	l.SX, l.SY, l.Turn = copied(l.SX), copied(l.SY), copied(l.Turn)
	l.Opacity, l.Remap = copied(l.Opacity), copied(l.Remap)
	l.Mask, l.Shape = copyPath(l.Mask), copyShape(l.Shape)
	return l
}

func copyShape(s api.Shape) api.Shape {
	s.W, s.H, s.Paths = copied(s.W), copied(s.H), copied(s.Paths)
	for i := range s.Paths {
		s.Paths[i].Path = copyPath(s.Paths[i].Path)
	}
	s.Colors, s.Width, s.Dash = copied(s.Colors), copied(s.Width), copied(s.Dash)
	s.From, s.To = copied(s.From), copied(s.To)
	return s
}

func copyPath(p api.Path) api.Path {
	p.P = copied(p.P)
	return p
}

// copied is l in memory of its own, with no room behind it that another list could reach.
func copied[T any](l []T) []T {
	if len(l) == 0 {
		return nil
	}
	out := make([]T, len(l))
	copy(out, l)
	return out
}
