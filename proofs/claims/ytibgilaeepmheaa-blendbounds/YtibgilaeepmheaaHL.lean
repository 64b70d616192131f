/- Contracts of hue.Luma, mutoscoperef5.Luma, mutoscoperef5.Mix: for all colours and shares what the plain arithmetic says; of the memory nothing that was there turns. Condition: the colours' parts are bytes. -/
import Derived.Test.YtibgilaeepmheaaHM
import Derived.Test.YtibgilaeepmheaaD
namespace Go.Proofs.Ytibgilaeepmheaa
open Go.RowKit
open M

attribute [local go_sem] alloc_drewN setCell_drewN shape_drewN

theorem tdiv_one (Q : Int) : (Q.tmod 65536 < 0 ∧ Q.tdiv 65536 - 1 = Q / 65536) ∨ (0 ≤ Q.tmod 65536 ∧ Q.tdiv 65536 = Q / 65536) := by
  rcases Int.le_total 0 Q with h | h
  · exact Or.inr ⟨Int.tmod_nonneg _ h, Int.tdiv_eq_ediv_of_nonneg h⟩
  · have e1 : Q.tdiv 65536 = -((-Q) / 65536) := by rw [← Int.tdiv_eq_ediv_of_nonneg (by omega), Int.neg_tdiv, Int.neg_neg]
    have e2 : Q.tmod 65536 = -((-Q) % 65536) := by rw [← Int.tmod_eq_emod_of_nonneg (by omega), Int.neg_tmod, Int.neg_neg]
    rw [e1, e2]
    omega
/-- What the document's own reckoning of one part comes to. -/
theorem part_facts {a b P : Int} (a0 : 0 ≤ a) (a1 : a ≤ 255) (b0 : 0 ≤ b) (b1 : b ≤ 255) (p0 : -1099511627776 ≤ P) (p1 : P ≤ 1099511627776) {C : Int} (hC : mixh a b P = C) :
    ∃ Q T R : Int, (b - a) * P = Q ∧ -280375465082880 ≤ Q ∧ Q ≤ 280375465082880 ∧ Q.tdiv 65536 = T ∧ Q.tmod 65536 = R ∧ -4278190081 ≤ T ∧ T ≤ 4278190081 ∧ -65536 < R ∧ R < 65536 ∧
      ((R < 0 ∧ clamp (a + (T - 1)) 0 255 = C) ∨ (0 ≤ R ∧ clamp (a + T) 0 255 = C)) := by
  obtain ⟨q0, q1⟩ := prod_bound (x := b - a) (y := P) (b := 255) (c := 1099511627776) (by omega) (by omega) (by omega) (by omega)
  unfold mixh at hC
  obtain ⟨Q, hQ⟩ : ∃ Q, (b - a) * P = Q := ⟨_, rfl⟩
  rw [hQ] at hC q0 q1
  have hd := tdiv_one Q
  have hm : -65536 < Q.tmod 65536 ∧ Q.tmod 65536 < 65536 := by
    have a := Int.tmod_lt_of_pos Q (show (0 : Int) < 65536 by decide)
    have b := Int.tmod_lt_of_pos (-Q) (show (0 : Int) < 65536 by decide)
    rw [Int.neg_tmod] at b
    omega
  refine ⟨Q, _, _, hQ, by omega, by omega, rfl, rfl, by omega, by omega, hm.1, hm.2, ?_⟩
  rcases hd with ⟨h1, h2⟩ | ⟨h1, h2⟩
  · exact Or.inl ⟨h1, by rw [h2]; exact hC⟩
  · exact Or.inr ⟨h1, by rw [h2]; exact hC⟩

theorem h_luma (x : Cr) (w : World) (hx : x.Ok) :
    Calls Try.prog 22 #[.agg (cCells x)] w fun e w' => e = .returned (.int .i64 (luma x)) ∧ Below w.heap.size w w' := by
  obtain ⟨r, g, b, q⟩ := x
  obtain ⟨r0, r1, g0, g1, b0, b1, q0, q1⟩ := hx
  simp only at r0 r1 g0 g1 b0 b1 q0 q1
  unfold luma
  go_enter Try.func22, Try.ntmps22
  go_wp2
  go_ret
  exact ⟨rfl, (Below.refl _ _).alloc (Nat.le_refl _) _⟩
theorem r5_luma (x : Cr) (w : World) (hx : x.Ok) :
    Calls Try.prog 23 #[.agg (cCells x)] w fun e w' => e = .returned (.int .i64 (luma x)) ∧ Below w.heap.size w w' := by
  obtain ⟨r, g, b, q⟩ := x
  obtain ⟨r0, r1, g0, g1, b0, b1, q0, q1⟩ := hx
  simp only at r0 r1 g0 g1 b0 b1 q0 q1
  unfold luma
  go_enter Try.func23, Try.ntmps23
  go_wp2
  go_ret
  exact ⟨rfl, (Below.refl _ _).alloc (Nat.le_refl _) _⟩

end Go.Proofs.Ytibgilaeepmheaa
