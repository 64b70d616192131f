/- Contracts of shape.point, .Rect, .Oval: for all numbers what the plain arithmetic says, in memory of the call's own; of the memory nothing that was there turns. -/
import Derived.Test.YtglbfpjjnboeaaaSh1
import Derived.Test.YtglbfpjjnboeaaaPM
import Derived.Test.YtglbfpjjnboeaaaC
namespace Go.Proofs.Ytglbfpjjnboeaaa
open Go Go.RowKit
open M

theorem sh_point (x y : Int) (w : World) : Calls Try.prog 30 #[.int .i64 x, .int .i64 y] w fun e w' => e = .returned (.agg (pCells ⟨x, y⟩)) ∧ Below w.heap.size w w' := by
  go_enter Try.func30, Try.ntmps30
  go_wp2
  refine bodyPost_ret (v := .agg (pCells ⟨x, y⟩)) (by simp [results, Try.results30, go_sem]) rfl ⟨rfl, ?_⟩
  exact (Below.refl _ _).alloc (Nat.le_refl _) _
/-- What a call has answered is a call's own answer, put into the block of its result. -/
theorem gives_tail {w w1 w2 : World} {B : Nat} {c : Bool} {ps : List Pt} {v : Value} (hB : w.heap.size = B) (hr : Has w1 B #[.bool false, .slice none 0 0] 41) (hb : Below B w w1) (ho : Pown w2 w1.heap.size v ps) (hq : Below w1.heap.size w1 w2) :
    Gives w c ps (.returned (.agg #[.bool c, v])) ((w2.setCell ⟨B, 0, none⟩ (.bool c)).setCell ⟨B, 1, none⟩ v) ∧ Has w2 B #[.bool false, .slice none 0 0] 41 := by
  have lt := hr.lt
  exact ⟨gives_put (w := w) hB (ho.lower (by omega)) (fun e => by have := (ho.base _ e).1; omega) (Nat.le_refl _) (hb.trans (hq.mono (by omega))) rfl _ _ rfl, hr.below hq hr.lt⟩

set_option maxRecDepth 100000 in
set_option maxHeartbeats 2000000 in
theorem sh_rect (x y : Int) (w : World) (wx : -9223372036854775808 ≤ x ∧ x ≤ 9223372036854775807) (wy : -9223372036854775808 ≤ y ∧ y ≤ 9223372036854775807) : Calls Try.prog 11 #[.int .i64 x, .int .i64 y] w (Gives w true (rectL x y)) := by
  obtain ⟨B, hB⟩ : ∃ B, w.heap.size = B := ⟨_, rfl⟩
  obtain ⟨W, hW⟩ : ∃ W, w.alloc (.cells #[.bool false, .slice none 0 0] 41) = W := ⟨_, rfl⟩
  have hr0 : Has W B #[.bool false, .slice none 0 0] 41 := by rw [← hW]; exact has_new hB
  have hb0 : Below B w W := by rw [← hW]; exact (Below.refl _ _).alloc (by omega) _
  have HR := Lib.hid hr0
  have HB := Lib.hid hB
  have HW := Lib.hid hW
  have HBW := Lib.hid hb0
  have SZ : Hid (B ≤ W.heap.size) := Lib.hid (Nat.le_of_lt hr0.lt)
  have ER : Hid (rectL x y = straightL [⟨-(x / 2), -(y / 2)⟩, ⟨x - x / 2, -(y / 2)⟩, ⟨x - x / 2, y - y / 2⟩, ⟨-(x / 2), y - y / 2⟩]) := Lib.hid rfl
  obtain ⟨R, hR⟩ : ∃ R, rectL x y = R := ⟨_, rfl⟩
  rw [hR] at ER ⊢
  clear hr0 hb0 hW hR
  go_enter Try.func11, Try.ntmps11
  go_wp2_with fail
  rw [HW.out]
  clear hB
  refine (sh_point _ _ _).mono ?_
  rintro e w1 ⟨rfl, q1⟩
  have Q1 := Lib.hid q1
  clear q1
  go_wp2_with fail
  refine (sh_point _ _ _).mono ?_
  rintro e w2 ⟨rfl, q2⟩
  have Q2 := Lib.hid (Q1.out.trans (q2.mono Q1.out.size))
  clear q2 Q1
  go_wp2_with fail
  refine (sh_point _ _ _).mono ?_
  rintro e w3 ⟨rfl, q3⟩
  have Q3 := Lib.hid (Q2.out.trans (q3.mono Q2.out.size))
  clear q3 Q2
  go_wp2_with fail
  refine (sh_point _ _ _).mono ?_
  rintro e w4 ⟨rfl, q4⟩
  have Q4 := Lib.hid (Q3.out.trans (q4.mono Q3.out.size))
  clear q4 Q3
  go_wp2_with fail
  obtain ⟨V, hV⟩ : ∃ V, w4.alloc (.cells #[.int .i64 (-(x / 2)), .int .i64 (-(y / 2)), .int .i64 (x - x / 2), .int .i64 (-(y / 2)), .int .i64 (x - x / 2), .int .i64 (y - y / 2), .int .i64 (-(x / 2)), .int .i64 (y - y / 2)] 31) = V := ⟨_, rfl⟩
  have PS : Psl V (.slice (some ⟨w4.heap.size, 0, none⟩) 4 4) [⟨-(x / 2), -(y / 2)⟩, ⟨x - x / 2, -(y / 2)⟩, ⟨x - x / 2, y - y / 2⟩, ⟨-(x / 2), y - y / 2⟩] := by rw [← hV]; exact psl_lit 4 4 rfl (by decide) (has_new rfl) rfl
  have QV : Below W.heap.size W V := by rw [← hV]; exact Q4.out.alloc Q4.out.size _
  have QW := Lib.hid QV
  rw [hV]
  have ST := sh_straight PS (by simp) (by simp)
  rw [← ER.out] at ST
  clear hV Q4 PS QV
  refine ST.mono ?_
  rintro e w5 ⟨v, rfl, ho, hq⟩
  obtain ⟨G, K⟩ := gives_tail (c := true) HB.out (HR.out.below QW.out HR.out.lt) (HBW.out.trans (QW.out.mono SZ.out)) ho hq
  have GG := Lib.hid G
  obtain ⟨ao, cp, rfl⟩ := ho.len
  obtain ⟨LN, hLN⟩ : ∃ n, R.length = n := ⟨_, rfl⟩
  rw [hLN] at GG ⊢
  have r0 := K.cell 0 _ rfl
  have r1 := K.cell 1 _ rfl
  have fz := has_fro K
  clear ST G K ho hq hLN
  go_wp2
  refine bodyPost_ret (v := .agg #[.bool true, .slice ao LN cp]) (by simp [results, Try.results11, go_sem, r0, r1]) rfl ?_
  exact GG.out

end Go.Proofs.Ytglbfpjjnboeaaa
