/- Two cells of a block stored; a row of places read in a later world; small facts on numbers. Conditions: those that each theorem names; no program is named here. -/
import Derived.Test.YtopepgifhnfbiaaVar
import Derived.Test.YtopepgifhnfbiaaPB
import Derived.Test.YtopepgifhnfbiaaTK5
namespace Go.Proofs.Ytopepgifhnfbiaa
open Go Go.RowKit
open M

theorem two_set {W : World} {k : Nat} {t : TypeId} {a' b' : Value} (h : Has W k #[a', b'] t) (a b : Value) : Has ((W.setCell ⟨k, 0, none⟩ a).setCell ⟨k, 1, none⟩ b) k #[a, b] t := by
  have := has_set (has_set h 0 a) 1 b
  simpa using this
theorem two_off {W : World} {k k' : Nat} {t : TypeId} {cs : Array Value} (h : Has W k cs t) (hne : k' ≠ k) (a b : Value) : Has ((W.setCell ⟨k', 0, none⟩ a).setCell ⟨k', 1, none⟩ b) k cs t :=
  (heap_setCell_other _ ⟨k', _, none⟩ k _ (fun e => hne (by simpa using e.symm))).trans ((heap_setCell_other _ ⟨k', _, none⟩ k _ (fun e => hne (by simpa using e.symm))).trans h)
theorem below_two {W : World} {k B : Nat} (hk : B ≤ k) (a b : Value) : Below B W ((W.setCell ⟨k, 0, none⟩ a).setCell ⟨k, 1, none⟩ b) := ((Below.refl _ _).setCell hk _).setCell hk _
theorem int_zero (n : Nat) : ((n : Int) == 0) = decide (n = 0) := by by_cases h : n = 0 <;> simp [h]
theorem int_last {n N : Nat} : ((n : Int) == (N : Int) - 1) = decide (n + 1 = N) := by
  by_cases h : n + 1 = N
  · rw [decide_eq_true h]; simp; omega
  · rw [decide_eq_false h]; simp; omega
abbrev zc2 : Array Value := #[.int .i64 0, .int .i64 0]
theorem Prow.laterR {w : World} {R : World → Prop} {g o : Nat} {ps : List Pt} (h : Prow w g o ps) {i : Nat} (hi : i < ps.length) {p : Pt} (hp : pt ps i = p) (z : LaterR w R) : z.to.cell? ⟨g, o + i * 2, none⟩ = some (.int .i64 p.x) ∧ z.to.cell? ⟨g, o + i * 2 + 1, none⟩ = some (.int .i64 p.y) := by
  have h2 := h.block (z.below.block g (h.lt (by omega)))
  rw [← hp]
  exact ⟨h2.c0 i hi, h2.c1 i hi⟩

end Go.Proofs.Ytopepgifhnfbiaa
