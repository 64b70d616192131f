/- Contract of mutoscopelaw7.known: it returns true; of the memory nothing that was there turns. -/
import Derived.Test.YtopepgifhnfbiaaPM
import Derived.Deep.RegionHeld3
import Derived.Deep.RegionWith
namespace Go.Proofs.Ytopepgifhnfbiaa
open Go.RowKit
open M

/-- A later world: what was in W is as it was. -/
structure Ht (W w' : World) : Prop where
  below : Below W.heap.size W w'
theorem Ht.call {W w' w'' : World} (h : Ht W w') (hq : Below w'.heap.size w' w'') : Ht W w'' := ⟨h.below.trans (hq.mono h.below.size)⟩
theorem Ht.drew {W w' : World} (h : Ht W w') : Ht W w'.drew := h.call (below_drew (Below.refl _ _))
theorem Ht.alloc {W w' : World} (h : Ht W w') (o : Obj) : Ht W (w'.alloc o) := h.call ((Below.refl _ _).alloc (Nat.le_refl _) _)
theorem Ht.refl (W : World) : Ht W W := ⟨Below.refl _ _⟩
theorem Ht.two {W w' : World} {ga gb : Nat} {c d : Value} {v u : Value} {t t' : TypeId} (h : Ht W w') (H0 : Has W ga #[c, v] t) (H1 : Has W gb #[d, u] t') :
    Ht W w' ∧ w'.cell? ⟨ga, 0, none⟩ = some c ∧ w'.cell? ⟨ga, 1, none⟩ = some v ∧ w'.cell? ⟨gb, 0, none⟩ = some d ∧ w'.cell? ⟨gb, 1, none⟩ = some u := by
  have K0 := H0.below h.below H0.lt
  have K1 := H1.below h.below H1.lt
  exact ⟨h, K0.cell 0 _ rfl, K0.cell 1 _ rfl, K1.cell 0 _ rfl, K1.cell 1 _ rfl⟩
theorem Psl.ht {W w' : World} {v : Value} {ps : List Pt} (h : Psl W v ps) (hq : Ht W w') : Psl w' v ps := h.below hq.below (Nat.le_refl _)

def knP : List Pt := List.replicate 4 default
def knQ : List Pt := [⟨8, 0⟩, ⟨8, 0⟩, ⟨8, 0⟩, ⟨8, 0⟩]
def knZ : List Pt := List.replicate 5 default
theorem kn_r1 : okP false knP = true := by decide +kernel
theorem kn_r2 : okP false knZ = false := by decide +kernel
theorem kn_f : fits false knP false knQ = true := by decide +kernel
theorem kn_m0 : morph false knP false knQ 0 = knP := by decide +kernel
theorem kn_m1 : morph false knP false knQ 65536 = knQ := by decide +kernel
theorem kn_s (ps : List Pt) : ((false == false) && decide (ps = ps)) = true := by simp
theorem zer_sl {w : World} {g n : Nat} (hn : n ≤ 8796093022208) (h : Has w g (zer n) 28) : Psl w (.slice (some ⟨g, 0, none⟩) n n) (List.replicate n default) := psl_lit n n (by simp) hn h (zer_pls n)

end Go.Proofs.Ytopepgifhnfbiaa
