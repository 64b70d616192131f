/- A shape as plain data ('Shp') and in memory ('ShIn': its seven lists lie there); which may stand in a document ('okS'), its path at a tick ('shAt', 'shCl'). No program is named here but by types. -/
import Derived.Test.YtglbfpjjnboeaaaShMath
import Derived.Test.YtglbfpjjnboeaaaKG
import Derived.Test.YtglbfpjjnboeaaaD1
import Derived.Test.YtglbfpjjnboeaaaHR
import Derived.Test.YtglbfpjjnboeaaaKA5
import Derived.Test.YtglbfpjjnboeaaaKA7
namespace Go.Proofs.Ytglbfpjjnboeaaa
open Go Go.RowKit
open M

structure Shp where
  form : Int
  n : Int
  W : List Ky
  vW : Value
  H : List Ky
  vH : Value
  P : List Pk
  vP : Value
  fill : Bool
  rule : Int
  kind : Int
  a : Cr
  b : Cr
  p : Pt
  q : Pt
  r : Int
  C : List Ck
  vC : Value
  stroke : Bool
  Wd : List Ky
  vWd : Value
  line : Cr
  cap : Int
  D : List Int
  vD : Value
  F : List Ky
  vF : Value
  T : List Ky
  vT : Value
/-- The cells of its paint. -/
abbrev paC (k : Int) (a b : Cr) (p q : Pt) (r : Int) : Array Value := #[.int .i64 k, .int .u8 a.r, .int .u8 a.g, .int .u8 a.b, .int .u8 a.q, .int .u8 b.r, .int .u8 b.g, .int .u8 b.b, .int .u8 b.q, .int .i64 p.x, .int .i64 p.y, .int .i64 q.x, .int .i64 q.y, .int .i64 r]
/-- Its cells. -/
abbrev shC (s : Shp) : Array Value := #[.int .i64 s.form, .int .i64 s.n, s.vW, s.vH, s.vP, .bool s.fill, .int .i64 s.rule,
  .int .i64 s.kind, .int .u8 s.a.r, .int .u8 s.a.g, .int .u8 s.a.b, .int .u8 s.a.q, .int .u8 s.b.r, .int .u8 s.b.g, .int .u8 s.b.b, .int .u8 s.b.q, .int .i64 s.p.x, .int .i64 s.p.y, .int .i64 s.q.x, .int .i64 s.q.y, .int .i64 s.r,
  s.vC, .bool s.stroke, s.vWd, .int .u8 s.line.r, .int .u8 s.line.g, .int .u8 s.line.b, .int .u8 s.line.q, .int .i64 s.cap, s.vD, s.vF, s.vT]
structure ShIn (w : World) (s : Shp) : Prop where
  W : Sl w s.vW s.W
  H : Sl w s.vH s.H
  P : Kl w s.vP s.P
  C : Csl w s.vC s.C
  Wd : Sl w s.vWd s.Wd
  D : Isl w s.vD s.D
  F : Sl w s.vF s.F
  T : Sl w s.vT s.T
theorem ShIn.below {w w' : World} {s : Shp} (h : ShIn w s) (hb : Below w.heap.size w w') : ShIn w' s :=
  ⟨h.W.below hb, h.H.below hb, h.P.below hb, h.C.below hb, h.Wd.below hb, h.D.below hb, h.F.below hb, h.T.below hb⟩
def formOk (s : Shp) : Bool :=
  if s.form = 0 ∨ s.form = 1 then decide (s.n = 0) && decide (s.P.length = 0)
  else if s.form = 2 then decide (2 ≤ s.n) && decide (s.n ≤ 16) && decide (s.P.length = 0)
  else if s.form = 3 then decide (s.n = 0) && decide (s.W.length = 0) && decide (s.H.length = 0)
  else false
def lineOk (s : Shp) : Bool := right s.W && right s.H && keysOk s.P
def paintOk (s : Shp) : Bool := decide (s.kind = 0 ∨ s.kind = 1 ∨ s.kind = 2) && (nearN s.p.x && nearN s.p.y && nearN s.q.x && nearN s.q.y && nearN s.r)
def fillOk (s : Shp) : Bool := decide (s.rule = 0 ∨ s.rule = 1) && paintOk s && right (bares s.C)
def drawOk (s : Shp) : Bool := right s.Wd && right s.F && right s.T && decide (s.cap = 0 ∨ s.cap = 1) && okD s.D
def okS (s : Shp) : Bool := formOk s && lineOk s && fillOk s && drawOk s
/-- Its path at the tick t: whether it is closed, its places. -/
def shCl (s : Shp) (t : Int) : Bool := if s.form = 0 ∨ s.form = 1 ∨ s.form = 2 then true else if s.form = 3 then atcl s.P t else false
def shAt (s : Shp) (t : Int) : List Pt :=
  if s.form = 0 then rectL (atk s.W t 0) (atk s.H t 0) else if s.form = 1 then ovalL (atk s.W t 0) (atk s.H t 0)
  else if s.form = 2 then starL s.n (atk s.W t 0) (atk s.H t 0) else if s.form = 3 then atps s.P t else []
/-- What a list of keys, of paths or of numbers holds can be told by its length alone. -/
theorem Sl.len {w : World} {v : Value} {ks : List Ky} (h : Sl w v ks) : ks.length ≤ 8796093022208 ∧ ∃ ao cap, v = .slice ao ks.length cap := by
  rcases h with ⟨rfl, ao, cap, rfl⟩ | ⟨_, g, o, cap, rfl, hr⟩
  · exact ⟨by simp, ao, cap, rfl⟩
  · exact ⟨hr.few, _, cap, rfl⟩
theorem Kl.len {w : World} {v : Value} {ks : List Pk} (h : Kl w v ks) : ks.length ≤ 100 ∧ ∃ ao cap, v = .slice ao ks.length cap := by
  obtain ⟨ao, cap, rfl, hf, _⟩ := h
  exact ⟨hf, ao, cap, rfl⟩

end Go.Proofs.Ytglbfpjjnboeaaa
