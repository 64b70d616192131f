/- Contract of path.copied: the same places in memory of its own; of the memory nothing that was there turns. What a path that is begun ('api.Path{Closed: .., P: make(..)}') lays, in both orders. -/
import Derived.Test.YtopepgifhnfbiaaPB
import Derived.BigRegion
namespace Go.Proofs.Ytopepgifhnfbiaa
open Go.RowKit
open M

/-- A path of the call's own, of these places. -/
def Gives (w : World) (c : Bool) (ps : List Pt) (e : Ending) (w' : World) : Prop := ∃ v, e = .returned (.agg #[.bool c, v]) ∧ Pown w' w.heap.size v ps ∧ Below w.heap.size w w'
/-- A path is begun: its list of N zero places in block gs, the path itself in block go. -/
structure Out (W : World) (B : Nat) (c : Bool) (N gs go : Nat) (V : World) : Prop where
  own : Pown V B (.slice (some ⟨gs, 0, none⟩) N N) (List.replicate N default)
  out : Has V go #[.bool c, .slice (some ⟨gs, 0, none⟩) N N] 45
  lg : W.heap.size ≤ gs
  lo : W.heap.size ≤ go
  ne : gs ≠ go
  below : Below W.heap.size W V
theorem Pown.drew {w : World} {B : Nat} {v : Value} {ps : List Pt} (h : Pown w B v ps) : Pown w.drew B v ps := h
theorem Has.drew {w : World} {g : Nat} {cs : Array Value} {t : TypeId} (h : Has w g cs t) : Has w.drew g cs t := h
theorem out_a {W : World} {B N : Nat} {c : Bool} (hB : B ≤ W.heap.size) (hN : N ≤ 8796093022208) : ∃ gs go V, ((W.alloc (.cells (zer N) 28)).alloc (.cells #[.bool c, .slice (some ⟨W.heap.size, 0, none⟩) N N] 45)).drew = V ∧ W.heap.size + 1 = go ∧ W.heap.size = gs ∧ Out W B c N gs go V :=
  ⟨_, _, _, rfl, rfl, rfl, (((own_made hN hB rfl).alloc _).drew), (has_new (by simp)).drew, Nat.le_refl _, by omega, by omega, below_drew (((Below.refl _ _).alloc (Nat.le_refl _) _).alloc (by simp) _)⟩
theorem out_b {W : World} {B N : Nat} {c : Bool} (hB : B ≤ W.heap.size) (hN : N ≤ 8796093022208) : ∃ gs go V, ((W.alloc (.cells #[.bool c, .slice (some ⟨W.heap.size + 1, 0, none⟩) N N] 45)).alloc (.cells (zer N) 28)).drew = V ∧ W.heap.size + 1 = gs ∧ W.heap.size = go ∧ Out W B c N gs go V :=
  ⟨_, _, _, rfl, rfl, rfl, (own_made hN (by simp; omega) (by simp)).drew, ((has_new rfl).alloc _).drew, by omega, Nat.le_refl _, by omega, below_drew (((Below.refl _ _).alloc (Nat.le_refl _) _).alloc (by simp) _)⟩

end Go.Proofs.Ytopepgifhnfbiaa
