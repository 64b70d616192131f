/- Contract of shape.Oval: for all numbers what the plain arithmetic says, in memory of the call's own; of the memory nothing that was there turns. -/
import Derived.Test.YtglbfpjjnboeaaaSh2
namespace Go.Proofs.Ytglbfpjjnboeaaa
open Go Go.RowKit
open M

/-- A literal of places in a block of its own. -/
theorem pown_new {w : World} {B n : Nat} {cs : Array Value} {ps : List Pt} (hb : B ≤ w.heap.size) (hn : ps.length = n) (hm : n ≤ 1000) (hcs : cs.toList = pls ps) : Pown (w.alloc (.cells cs 31)) B (.slice (some ⟨w.heap.size, 0, none⟩) n n) ps := by
  subst hn
  have hsz : cs.size = ps.length * 2 := by rw [← Array.length_toList, hcs, pls_length]
  have := World.ownsRow_lit (e := 31) (size := 2) (base := B) w cs ps.length hb (by unfold maxLen; omega) hsz
  unfold Pown
  rw [← hcs]
  exact this

set_option maxRecDepth 100000 in
set_option maxHeartbeats 4000000 in
theorem sh_oval (x y : Int) (w : World) (wx : -9223372036854775808 ≤ x ∧ x ≤ 9223372036854775807) (wy : -9223372036854775808 ≤ y ∧ y ≤ 9223372036854775807) : Calls Try.prog 12 #[.int .i64 x, .int .i64 y] w (Gives w true (ovalL x y)) := by
  obtain ⟨B, hB⟩ : ∃ B, w.heap.size = B := ⟨_, rfl⟩
  obtain ⟨W, hW⟩ : ∃ W, w.alloc (.cells #[.bool false, .slice none 0 0] 41) = W := ⟨_, rfl⟩
  have hr0 : Has W B #[.bool false, .slice none 0 0] 41 := by rw [← hW]; exact has_new hB
  have hb0 : Below B w W := by rw [← hW]; exact (Below.refl _ _).alloc (by omega) _
  have HR := Lib.hid hr0
  have HB := Lib.hid hB
  have HW := Lib.hid hW
  have HBW := Lib.hid hb0
  have SZ : Hid (B ≤ W.heap.size) := Lib.hid (Nat.le_of_lt hr0.lt)
  obtain ⟨R, hR⟩ : ∃ R, ovalL x y = R := ⟨_, rfl⟩
  have ER : Hid (ovalN (x / 2) (y / 2) (mul (x / 2) 36195) (mul (y / 2) 36195) = R) := Lib.hid hR
  rw [hR]
  obtain ⟨a, ha⟩ : ∃ a, x / 2 = a := ⟨_, rfl⟩
  obtain ⟨b, hb⟩ : ∃ b, y / 2 = b := ⟨_, rfl⟩
  have a0 : -4611686018427387904 ≤ a ∧ a ≤ 4611686018427387903 := by omega
  have b0 : -4611686018427387904 ≤ b ∧ b ≤ 4611686018427387903 := by omega
  have M1 : Hid (∀ w : World, Calls Try.prog 31 #[.int .i64 a, .int .i64 36195] w fun e w' => e = .returned (.int .i64 (mul a 36195)) ∧ w = w') := Lib.hid (fun w => q_mul a 36195 w)
  have M2 : Hid (∀ w : World, Calls Try.prog 31 #[.int .i64 b, .int .i64 36195] w fun e w' => e = .returned (.int .i64 (mul b 36195)) ∧ w = w') := Lib.hid (fun w => q_mul b 36195 w)
  have k0 : -1099511627776 ≤ mul a 36195 ∧ mul a 36195 ≤ 1099511627776 := ⟨hold_lo _, hold_hi _⟩
  have l0 : -1099511627776 ≤ mul b 36195 ∧ mul b 36195 ≤ 1099511627776 := ⟨hold_lo _, hold_hi _⟩
  rw [ha, hb] at ER
  obtain ⟨k, hk⟩ : ∃ k, mul a 36195 = k := ⟨_, rfl⟩
  obtain ⟨l, hl⟩ : ∃ l, mul b 36195 = l := ⟨_, rfl⟩
  rw [hk] at M1 k0 ER
  rw [hl] at M2 l0 ER
  clear hr0 hb0 hW hR hk hl
  go_enter Try.func12, Try.ntmps12
  go_wp2_with fail
  rw [HW.out]
  clear hB
  clear ha hb wx wy
  refine (M1.out _).mono ?_
  rintro e w' ⟨rfl, rfl⟩
  go_wp2_with fail
  refine (M2.out _).mono ?_
  rintro e w' ⟨rfl, rfl⟩
  clear M1 M2
  have M2 : Hid (Below W.heap.size W W) := Lib.hid (Below.refl _ _)
  go_wp2_with fail
  refine (sh_point _ _ _).mono ?_
  rintro e w1 ⟨rfl, q1⟩
  have Q1 := Lib.hid (M2.out.trans (q1.mono M2.out.size))
  clear q1 M2
  go_wp2_with fail
  refine (sh_point _ _ _).mono ?_
  rintro e w2 ⟨rfl, q2⟩
  have Q2 := Lib.hid (Q1.out.trans (q2.mono Q1.out.size))
  clear q2 Q1
  go_wp2_with fail
  refine (sh_point _ _ _).mono ?_
  rintro e w3 ⟨rfl, q3⟩
  have Q3 := Lib.hid (Q2.out.trans (q3.mono Q2.out.size))
  clear q3 Q2
  go_wp2_with fail
  refine (sh_point _ _ _).mono ?_
  rintro e w4 ⟨rfl, q4⟩
  have Q4 := Lib.hid (Q3.out.trans (q4.mono Q3.out.size))
  clear q4 Q3
  go_wp2_with fail
  refine (sh_point _ _ _).mono ?_
  rintro e w5 ⟨rfl, q5⟩
  have Q5 := Lib.hid (Q4.out.trans (q5.mono Q4.out.size))
  clear q5 Q4
  go_wp2_with fail
  refine (sh_point _ _ _).mono ?_
  rintro e w6 ⟨rfl, q6⟩
  have Q6 := Lib.hid (Q5.out.trans (q6.mono Q5.out.size))
  clear q6 Q5
  go_wp2_with fail
  refine (sh_point _ _ _).mono ?_
  rintro e w7 ⟨rfl, q7⟩
  have Q7 := Lib.hid (Q6.out.trans (q7.mono Q6.out.size))
  clear q7 Q6
  go_wp2_with fail
  refine (sh_point _ _ _).mono ?_
  rintro e w8 ⟨rfl, q8⟩
  have Q8 := Lib.hid (Q7.out.trans (q8.mono Q7.out.size))
  clear q8 Q7
  go_wp2_with fail
  refine (sh_point _ _ _).mono ?_
  rintro e w9 ⟨rfl, q9⟩
  have Q9 := Lib.hid (Q8.out.trans (q9.mono Q8.out.size))
  clear q9 Q8
  go_wp2_with fail
  refine (sh_point _ _ _).mono ?_
  rintro e w10 ⟨rfl, q10⟩
  have Q10 := Lib.hid (Q9.out.trans (q10.mono Q9.out.size))
  clear q10 Q9
  go_wp2_with fail
  refine (sh_point _ _ _).mono ?_
  rintro e w11 ⟨rfl, q11⟩
  have Q11 := Lib.hid (Q10.out.trans (q11.mono Q10.out.size))
  clear q11 Q10
  go_wp2_with fail
  refine (sh_point _ _ _).mono ?_
  rintro e w12 ⟨rfl, q12⟩
  have Q12 := Lib.hid (Q11.out.trans (q12.mono Q11.out.size))
  clear q12 Q11
  go_wp2_with fail
  refine (sh_point _ _ _).mono ?_
  rintro e w13 ⟨rfl, q13⟩
  have Q13 := Lib.hid (Q12.out.trans (q13.mono Q12.out.size))
  clear q13 Q12
  obtain ⟨V, hV⟩ : ∃ V, w13.alloc (.cells #[.int .i64 a, .int .i64 0, .int .i64 a, .int .i64 l, .int .i64 k, .int .i64 b, .int .i64 0, .int .i64 b, .int .i64 (-k), .int .i64 b, .int .i64 (-a), .int .i64 l, .int .i64 (-a), .int .i64 0, .int .i64 (-a), .int .i64 (-l), .int .i64 (-k), .int .i64 (-b), .int .i64 0, .int .i64 (-b), .int .i64 k, .int .i64 (-b), .int .i64 a, .int .i64 (-l), .int .i64 a, .int .i64 0] 31) = V := ⟨_, rfl⟩
  have QV : Below W.heap.size W V := by rw [← hV]; exact Q13.out.alloc Q13.out.size _
  have K := HR.out.below QV HR.out.lt
  have PO : Pown V B (.slice (some ⟨w13.heap.size, 0, none⟩) 13 13) R := by rw [← hV, ← ER.out]; exact pown_new (Nat.le_trans SZ.out Q13.out.size) rfl (by decide) rfl
  have G := Lib.hid (gives_put (w := w) (r := B) (c := true) HB.out PO (fun e => by have e' : some w13.heap.size = some B := e; simp at e'; have := HR.out.lt; have := Q13.out.size; omega) (Nat.le_refl _) (HBW.out.trans (QV.mono SZ.out)) rfl (.bool true) _ rfl)
  have K13 := HR.out.below Q13.out HR.out.lt
  have r0 := fun o => (K13.alloc o).cell 0 _ rfl
  have r1 := fun o => (K13.alloc o).cell 1 _ rfl
  have fz := fun o j => has_fro (K13.alloc o) j
  rw [← hV] at G
  clear hV QV K PO Q13 K13
  go_wp2
  refine bodyPost_ret (v := .agg #[.bool true, .slice (some ⟨w13.heap.size, 0, none⟩) 13 13]) (by simp [results, Try.results12, go_sem, r0, r1]) rfl ?_
  exact G.out

end Go.Proofs.Ytglbfpjjnboeaaa
