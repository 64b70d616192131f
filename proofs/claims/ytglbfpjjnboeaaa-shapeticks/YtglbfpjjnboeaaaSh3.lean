/- Contracts of shape.around, .Star: for all numbers what the plain arithmetic says, in memory of the call's own; of the memory nothing that was there turns. -/
import Derived.Test.YtglbfpjjnboeaaaSh2
import Derived.Test.YtglbfpjjnboeaaaT
import Derived.Test.YtglbfpjjnboeaaaE4
namespace Go.Proofs.Ytglbfpjjnboeaaa
open Go Go.RowKit
open M

set_option maxRecDepth 100000 in
theorem sh_around (a f : Int) (w : World) : Calls Try.prog 33 #[.int .i64 a, .int .i64 f] w fun e w' => e = .returned (.agg (pCells ⟨mul f (cos a), mul f (sin a)⟩)) ∧ Below w.heap.size w w' := by
  obtain ⟨c, hc⟩ : ∃ c, cos a = c := ⟨_, rfl⟩
  obtain ⟨d, hd⟩ : ∃ d, sin a = d := ⟨_, rfl⟩
  have TC : Hid (∀ w, Calls Try.prog 51 #[.int .i64 a] w (Drawn (.int .i64 c) w)) := Lib.hid (fun w => by have := t_cos a w; rw [hc] at this; exact this)
  have TS : Hid (∀ w, Calls Try.prog 52 #[.int .i64 a] w (Drawn (.int .i64 d) w)) := Lib.hid (fun w => by have := t_sin a w; rw [hd] at this; exact this)
  rw [hc, hd]
  clear hc hd
  go_enter Try.func33, Try.ntmps33
  obtain ⟨B, hB⟩ : ∃ B, w.heap.size = B := ⟨_, rfl⟩
  obtain ⟨W, hW⟩ : ∃ W, w.alloc (.cells #[.int .i64 0, .int .i64 0] 31) = W := ⟨_, rfl⟩
  have hr0 : Has W B #[.int .i64 0, .int .i64 0] 31 := by rw [← hW]; exact has_new hB
  have hb0 : Below B w W := by rw [← hW]; exact (Below.refl _ _).alloc (by omega) _
  have HR := Lib.hid hr0
  have HB := Lib.hid hB
  have HW := Lib.hid hW
  have HBW := Lib.hid hb0
  have SZ : Hid (B ≤ W.heap.size) := Lib.hid (Nat.le_of_lt hr0.lt)
  clear hr0 hb0 hW
  go_wp2_with fail
  rw [HW.out]
  clear hB
  refine (TC.out _).mono ?_
  rintro e w1 ⟨rfl, n1, rfl⟩
  go_wp2_with fail
  refine (q_mul _ _ _).mono ?_
  rintro e w' ⟨rfl, rfl⟩
  go_wp2_with fail
  refine (TS.out _).mono ?_
  rintro e w2 ⟨rfl, n2, rfl⟩
  go_wp2_with fail
  refine (q_mul _ _ _).mono ?_
  rintro e w' ⟨rfl, rfl⟩
  obtain ⟨V, hV⟩ : ∃ V, W.drewN (n1 + n2) = V := ⟨_, rfl⟩
  have bV : Below W.heap.size W V := by rw [← hV]; exact below_drewN (Below.refl _ _) _
  have BV := Lib.hid bV
  clear bV
  rw [hV]
  clear hV
  go_wp2_with fail
  refine (sh_point _ _ _).mono ?_
  rintro e w3 ⟨rfl, q3⟩
  have Q3 := BV.out.trans (q3.mono BV.out.size)
  have K := HR.out.below Q3 HR.out.lt
  have r0 := K.cell 0 _ rfl
  have r1 := K.cell 1 _ rfl
  have fz := has_fro K
  have QQ : Hid (Below w.heap.size w w3) := Lib.hid (by rw [HB.out]; exact HBW.out.trans (Q3.mono SZ.out))
  have HBB : Hid (w.heap.size ≤ B) := Lib.hid (by rw [HB.out]; exact Nat.le_refl _)
  clear K Q3 q3
  go_wp2
  refine bodyPost_ret (v := .agg (pCells ⟨mul f c, mul f d⟩)) (by simp [results, Try.results33, go_sem, r0, r1]) rfl ⟨rfl, ?_⟩
  exact (QQ.out.setCell HBB.out _).setCell HBB.out _

theorem angle_of {c : Int} {j : Nat} (c0 : 2 ≤ c) (c1 : c ≤ 16) (hj : j ≤ 32) : -5898240 ≤ angle c j ∧ angle c j ≤ 400000000 := by
  unfold angle
  have h0 : 0 ≤ ((j : Int) * 11796480) / c := Int.ediv_nonneg (by omega) (by omega)
  have h1 : ((j : Int) * 11796480) / c ≤ (j : Int) * 11796480 := Int.ediv_le_self _ (by omega)
  omega

set_option maxRecDepth 100000 in
set_option maxHeartbeats 2000000 in
theorem sh_star (n r s : Int) (w : World) : Calls Try.prog 13 #[.int .i64 n, .int .i64 r, .int .i64 s] w (Gives w true (starL n r s)) := by
  obtain ⟨c, hc⟩ : ∃ c, points n = c := ⟨_, rfl⟩
  have QC : Hid (∀ w, Calls Try.prog 32 #[.int .i64 n, .int .i64 2, .int .i64 16] w fun e w' => e = .returned (.int .i64 c) ∧ w = w') := Lib.hid (fun w => by have := q_clamp n 2 16 w; unfold points at hc; rw [hc] at this; exact this)
  have c2 : 2 ≤ c ∧ c ≤ 16 := by rw [← hc]; unfold points clamp; split <;> (try split) <;> omega
  obtain ⟨C, rfl⟩ : ∃ C : Nat, c = (C : Int) := ⟨c.toNat, by omega⟩
  have ES : Hid (straightL (starN C r s (2 * C)) = starL n r s) := Lib.hid (by unfold starL; rw [hc, Int.toNat_natCast])
  obtain ⟨R, hR⟩ : ∃ R, starL n r s = R := ⟨_, rfl⟩
  rw [hR] at ES ⊢
  obtain ⟨B, hB⟩ : ∃ B, w.heap.size = B := ⟨_, rfl⟩
  obtain ⟨W, hW⟩ : ∃ W, w.alloc (.cells #[.bool false, .slice none 0 0] 41) = W := ⟨_, rfl⟩
  have hr0 : Has W B #[.bool false, .slice none 0 0] 41 := by rw [← hW]; exact has_new hB
  have hb0 : Below B w W := by rw [← hW]; exact (Below.refl _ _).alloc (by omega) _
  have HR := Lib.hid hr0
  have HB := Lib.hid hB
  have HW := Lib.hid hW
  have HBW := Lib.hid hb0
  have SZ : Hid (B ≤ W.heap.size) := Lib.hid (Nat.le_of_lt hr0.lt)
  have o1 : (2 : Int) ≤ C := c2.1
  have o2 : (C : Int) ≤ 16 := c2.2
  have o3 : ¬ (C : Int) = 0 := by omega
  have o4 : ¬ C = 0 := by omega
  have o5 : wrap64 (2 * (C : Int)) = 2 * (C : Int) := by unfold wrap64; omega
  clear hr0 hb0 hW hR hc c2
  go_enter Try.func13, Try.ntmps13
  go_wp2_with fail
  rw [HW.out]
  clear hB
  refine (QC.out _).mono ?_
  rintro e w' ⟨rfl, rfl⟩
  go_wp2_with fail
  go_loopw [8, 15] (fun lv i wr => ∃ (m : Nat), m ≤ 2 * C ∧ i = .int .i64 m ∧ Pown wr W.heap.size lv (starN C r s m) ∧ Below W.heap.size W wr) (fun _ i _ => 2 * C - (intOf i).toNat)
  case atStart => exact ⟨0, by omega, rfl, Pown.nil _ _, Below.refl _ _⟩
  case round =>
    obtain ⟨m, hm, rfl, ho, hb⟩ := hrel
    by_cases hlt : m < 2 * C
    · obtain ⟨A, hA, A0, A1⟩ : ∃ A, angle C m = A ∧ -5898240 ≤ A ∧ A ≤ 400000000 := ⟨_, rfl, angle_of o1 o2 (by omega)⟩
      have HA : Hid ((m : Int) * 11796480 / C - 5898240 = A) := Lib.hid hA
      have oA : (m : Int) * 11796480 / C = A + 5898240 := by have := HA.out; omega
      have o6 : (m : Int) < 2 * C := by omega
      have o7 : (m : Int) ≤ 32 := by omega
      have o8 : 0 ≤ (m : Int) * 11796480 := by omega
      have HO := Lib.hid ho
      have HQ := Lib.hid hb
      have NX := Lib.hid (starN_snoc C r s m)
      obtain ⟨p, hp⟩ : ∃ p, starP C r s m = p := ⟨_, rfl⟩
      rw [hp] at NX
      obtain ⟨f, hf⟩ : ∃ f, (if m % 2 = 1 then s else r) = f := ⟨_, rfl⟩
      have EP : Hid (p = ⟨mul f (cos A), mul f (sin A)⟩) := Lib.hid (by rw [← hp]; unfold starP; rw [hf, hA])
      obtain ⟨rs, hrs⟩ : ∃ rs, starN C r s m = rs := ⟨_, rfl⟩
      have HN : Hid (rs.length = m) := Lib.hid (by rw [← hrs, starN_length])
      rw [hrs] at HO NX
      have FF : Hid (∀ w, Calls Try.prog 33 #[.int .i64 A, .int .i64 f] w fun e w' => e = .returned (.agg (pCells p)) ∧ Below w.heap.size w w') := Lib.hid (fun w => by rw [EP.out]; exact sh_around A f w)
      obtain ⟨aol, capl, el⟩ := ho.len
      rw [hrs, HN.out] at el
      clear hA hp hrs ho hb
      subst el
      rcases (show m % 2 = 0 ∨ m % 2 = 1 by omega) with hm2 | hm2
      all_goals
        first | rw [if_neg (by omega)] at hf | rw [if_pos hm2] at hf
        subst hf
        have om : (m : Int) % 2 = ((m % 2 : Nat) : Int) := by omega
        rw [hm2] at om
        clear hm2
        go_wp2_with fail
        refine (FF.out _).mono ?_
        rintro e w3 ⟨rfl, q3⟩
        have Q3 := Lib.hid (HQ.out.trans (q3.mono HQ.out.size))
        have O3 := Lib.hid (HO.out.below q3 (Nat.le_refl _))
        clear q3
        go_wp2_with (at_builtin; refine wpList_append_pl rfl _ _ rfl m HN.out rfl w3.heap.size 0 1 1 rfl [p] rfl (by decide) (by omega) (prow_one _ _) (O3.out.alloc _) (Nat.le_trans Q3.out.size (by simp)) ?_)
        intro g' cap' w4 ho4 hg4 _
        have B4 : Below W.heap.size W w4 := ((Q3.out.alloc Q3.out.size _).grown hg4 (by have := Q3.out.size; simp; omega) (fun k hk => (O3.out.base k hk).1))
        have HB4 := Lib.hid B4
        rw [← NX.out] at ho4
        have HO4 := Lib.hid ho4
        clear ho4 hg4 B4
        go_wp2
        go_roundw
        case rel => exact ⟨m + 1, by omega, by go_num, HO4.out, HB4.out⟩
        case measure => simp [intOf]; omega
    · obtain rfl : m = 2 * C := by omega
      have o6 : ((2 * C : Nat) : Int) = 2 * (C : Int) := by omega
      have HL : Hid ((starN C r s (2 * C)).length = 2 * C) := Lib.hid (starN_length _ _ _ _)
      have ST := sh_straight (ho.sl (by rw [HL.out]; omega)) (by rw [HL.out]; omega) (by rw [HL.out]; omega)
      rw [ES.out] at ST
      have HS := Lib.hid ST
      have HQ := Lib.hid hb
      obtain ⟨aol, capl, rfl⟩ := ho.len
      clear ho hb ST
      go_wp2_with fail
      refine HS.out.mono ?_
      rintro e w5 ⟨v, rfl, ho, hq⟩
      obtain ⟨G, K⟩ := gives_tail (c := true) HB.out (HR.out.below HQ.out HR.out.lt) (HBW.out.trans (HQ.out.mono SZ.out)) ho hq
      have GG := Lib.hid G
      obtain ⟨ao, cp, rfl⟩ := ho.len
      obtain ⟨LN, hLN⟩ : ∃ n, R.length = n := ⟨_, rfl⟩
      rw [hLN] at GG ⊢
      have r0 := K.cell 0 _ rfl
      have r1 := K.cell 1 _ rfl
      have fz := has_fro K
      clear G K ho hq hLN
      go_wp2
      refine bodyPost_ret (v := .agg #[.bool true, .slice ao LN cp]) (by simp [results, Try.results13, go_sem, r0, r1]) rfl ?_
      exact GG.out

end Go.Proofs.Ytglbfpjjnboeaaa
