/- Contracts of arc.Length and of the reference's Length: for all polys what the plain arithmetic says; of the memory nothing that was there turns. -/
import Derived.Test.YtgnmiilmmbblmaaN2
namespace Go.Proofs.Ytgnmiilmmbblmaa
open Go Go.RowKit
open M


set_option maxRecDepth 100000 in
set_option maxHeartbeats 2000000 in
theorem a_length (c : Bool) {v : Value} {ps : List Pt} {w : World} (h : Psl w v ps) :
    Calls Try.prog 21 #[.agg #[.bool c, v]] w fun r w' => r = .returned (.int .i64 (lengthL c ps)) ∧ Below w.heap.size w w' := by
  obtain ⟨B, hB⟩ : ∃ B, w.heap.size = B := ⟨_, rfl⟩
  obtain ⟨W, hW⟩ : ∃ W, w.alloc (.cells #[.bool c, v] 24) = W := ⟨_, rfl⟩
  have ha : Has W B #[.bool c, v] 24 := by rw [← hW]; exact has_new hB
  have hbl : Below w.heap.size w W := by rw [← hW]; exact (Below.refl _ _).alloc (Nat.le_refl _) _
  have hs := h.below hbl (Nat.le_refl _)
  obtain ⟨ao, cap, rfl, hf, _⟩ := h
  obtain ⟨N, hN⟩ : ∃ N, ps.length = N := ⟨_, rfl⟩
  obtain ⟨M, hM⟩ : ∃ M, sidesN c N = M := ⟨_, rfl⟩
  have hMN : M ≤ N := hM ▸ sidesN_le c N
  rw [hN] at hf hs ha hW ⊢
  have EL : Hid (lengthL c ps = lenN ps M) := Lib.hid (by unfold lengthL; rw [hN, hM])
  have SD : Hid (∀ w : World, Calls Try.prog 34 #[.agg #[.bool c, .slice ao N cap]] w fun r w' => r = .returned (.int .i64 (M : Int)) ∧ Below w.heap.size w w') := Lib.hid (fun w => by have := a_sides c ao N cap hf w; rw [hM] at this; exact this)
  have HA := Lib.hid ha
  have HBL := Lib.hid hbl
  have HS := Lib.hid hs
  have HW := Lib.hid hW
  have HN := Lib.hid hN
  clear ha hbl hs hW hN hM
  go_enter Try.func21, Try.ntmps21
  go_upto_region 1 with fail
  rw [HW.out]
  clear hB
  have a0 := HA.out.cell 0 _ rfl
  have a1 := HA.out.cell 1 _ rfl
  go_wp2_with fail
  refine (SD.out _).mono ?_
  rintro e w1 ⟨rfl, hq1⟩
  have HQ1 := Lib.hid hq1
  clear hq1 a0 a1
  go_wp2_with fail
  go_loopw [3, 9] (fun s i wr => ∃ n : Nat, n ≤ M ∧ s = .int .i64 (lenN ps n) ∧ i = .int .i64 n ∧ Below W.heap.size W wr) (fun _ i _ => M - (intOf i).toNat)
  case atStart => exact ⟨0, by omega, by rw [lenN_zero], rfl, HQ1.out⟩
  case round =>
    obtain ⟨n, hn, rfl, rfl, hb⟩ := hrel
    have ka := HA.out.below hb HA.out.lt
    have c0 := ka.cell 0 _ rfl
    have c1 := ka.cell 1 _ rfl
    have HBB := Lib.hid hb
    clear hb ka
    obtain ⟨s, hs⟩ : ∃ s, lenN ps n = s := ⟨_, rfl⟩
    rw [hs]
    have es := Lib.hid hs
    clear hs
    by_cases hlt : n < M
    · have o3 : (n : Int) < M := by omega
      have o5 : (n : Int) ≤ 8796093022208 := by omega
      have BX := HBB
      go_wp2_with fail
      refine (a_side c (HS.out.below BX.out (Nat.le_refl _)) HN.out (by omega)).mono ?_
      rintro e w2 ⟨rfl, hq2⟩
      obtain ⟨l, hl⟩ : ∃ l, sideL ps n = l := ⟨_, rfl⟩
      have AL := Lib.hid (fun w => a_long (sa ps n) (sb ps n) w (pld_plc _) (pld_plc _))
      rw [show longP (sa ps n) (sb ps n) = l from hl] at AL
      obtain ⟨pa, ha⟩ : ∃ p, sa ps n = p := ⟨_, rfl⟩
      obtain ⟨pb, hb⟩ : ∃ p, sb ps n = p := ⟨_, rfl⟩
      rw [ha, hb] at AL ⊢
      have B2 := Lib.hid (BX.out.trans (hq2.mono BX.out.size))
      have EL2 := Lib.hid hl
      clear hq2 hl ha hb c0 c1
      go_wp2_with fail
      refine (AL.out _).mono ?_
      rintro e w3 ⟨rfl, hq3⟩
      have B3 : Hid (Below W.heap.size W w3) := Lib.hid ((((B2.out.alloc B2.out.size _).alloc (by have := B2.out.size; simp; omega) _)).trans (hq3.mono (by have := B2.out.size; simp; omega)))
      clear hq3
      go_wp2_with fail
      refine (q_add _ _ _).mono ?_
      rintro e w4 ⟨rfl, rfl⟩
      go_wp2
      go_roundw
      case rel => exact ⟨n + 1, by omega, by rw [← lenN_step, es.out, EL2.out], by go_num, B3.out⟩
      case measure => simp [intOf]; omega
    · obtain rfl : n = M := by omega
      have o3 : ¬ (n : Int) < n := by omega
      have BX := HBB
      go_wp2
      go_ret
      exact ⟨by rw [EL.out, es.out]; rfl, HBL.out.trans (BX.out.mono HBL.out.size)⟩

set_option maxRecDepth 100000 in
set_option maxHeartbeats 2000000 in
theorem r9_length (c : Bool) {v : Value} {ps : List Pt} {w : World} (h : Psl w v ps) :
    Calls Try.prog 12 #[.agg #[.bool c, v]] w fun r w' => r = .returned (.int .i64 (lengthL c ps)) ∧ Below w.heap.size w w' := by
  obtain ⟨B, hB⟩ : ∃ B, w.heap.size = B := ⟨_, rfl⟩
  obtain ⟨W, hW⟩ : ∃ W, w.alloc (.cells #[.bool c, v] 24) = W := ⟨_, rfl⟩
  have ha : Has W B #[.bool c, v] 24 := by rw [← hW]; exact has_new hB
  have hbl : Below w.heap.size w W := by rw [← hW]; exact (Below.refl _ _).alloc (Nat.le_refl _) _
  have hs := h.below hbl (Nat.le_refl _)
  obtain ⟨ao, cap, rfl, hf, _⟩ := h
  obtain ⟨N, hN⟩ : ∃ N, ps.length = N := ⟨_, rfl⟩
  obtain ⟨M, hM⟩ : ∃ M, sidesN c N = M := ⟨_, rfl⟩
  have hMN : M ≤ N := hM ▸ sidesN_le c N
  rw [hN] at hf hs ha hW ⊢
  have EL : Hid (lengthL c ps = lenN ps M) := Lib.hid (by unfold lengthL; rw [hN, hM])
  have SD : Hid (∀ w : World, Calls Try.prog 25 #[.agg #[.bool c, .slice ao N cap]] w fun r w' => r = .returned (.int .i64 (M : Int)) ∧ Below w.heap.size w w') := Lib.hid (fun w => by have := r9_sides c ao N cap hf w; rw [hM] at this; exact this)
  have HA := Lib.hid ha
  have HBL := Lib.hid hbl
  have HS := Lib.hid hs
  have HW := Lib.hid hW
  have HN := Lib.hid hN
  clear ha hbl hs hW hN hM
  go_enter Try.func12, Try.ntmps12
  go_upto_region 1 with fail
  rw [HW.out]
  clear hB
  go_wp2_with fail
  go_loopw [3, 4] (fun s i wr => ∃ n : Nat, n ≤ M ∧ s = .int .i64 (lenN ps n) ∧ i = .int .i64 n ∧ Below W.heap.size W wr) (fun _ i _ => M - (intOf i).toNat)
  case atStart => exact ⟨0, by omega, by rw [lenN_zero], rfl, Below.refl _ _⟩
  case round =>
    obtain ⟨n, hn, rfl, rfl, hb⟩ := hrel
    have ka := HA.out.below hb HA.out.lt
    have c0 := ka.cell 0 _ rfl
    have c1 := ka.cell 1 _ rfl
    have HBB := Lib.hid hb
    clear hb ka
    obtain ⟨s, hs⟩ : ∃ s, lenN ps n = s := ⟨_, rfl⟩
    rw [hs]
    have es := Lib.hid hs
    clear hs
    by_cases hlt : n < M
    · have o3 : (n : Int) < M := by omega
      have o5 : (n : Int) ≤ 8796093022208 := by omega
      go_wp2_with fail
      refine (SD.out _).mono ?_
      rintro e w1 ⟨rfl, hq1⟩
      have BX := Lib.hid (HBB.out.trans (hq1.mono HBB.out.size))
      have ka := HA.out.below BX.out HA.out.lt
      have c0 := ka.cell 0 _ rfl
      have c1 := ka.cell 1 _ rfl
      clear hq1 ka
      go_wp2_with fail
      refine (r9_side c (HS.out.below BX.out (Nat.le_refl _)) HN.out (by omega)).mono ?_
      rintro e w2 ⟨rfl, hq2⟩
      obtain ⟨l, hl⟩ : ∃ l, sideL ps n = l := ⟨_, rfl⟩
      have AL := Lib.hid (fun w => r9_far (sa ps n) (sb ps n) w (pld_plc _) (pld_plc _))
      rw [show longP (sa ps n) (sb ps n) = l from hl] at AL
      obtain ⟨pa, ha⟩ : ∃ p, sa ps n = p := ⟨_, rfl⟩
      obtain ⟨pb, hb⟩ : ∃ p, sb ps n = p := ⟨_, rfl⟩
      rw [ha, hb] at AL ⊢
      have B2 := Lib.hid (BX.out.trans (hq2.mono BX.out.size))
      have EL2 := Lib.hid hl
      clear hq2 hl ha hb c0 c1
      go_wp2_with fail
      refine (AL.out _).mono ?_
      rintro e w3 ⟨rfl, hq3⟩
      have B3 : Hid (Below W.heap.size W w3) := Lib.hid ((((B2.out.alloc B2.out.size _).alloc (by have := B2.out.size; simp; omega) _)).trans (hq3.mono (by have := B2.out.size; simp; omega)))
      clear hq3
      go_wp2_with fail
      refine (r_add _ _ _).mono ?_
      rintro e w4 ⟨rfl, rfl⟩
      go_wp2
      go_roundw
      case rel => exact ⟨n + 1, by omega, by rw [← lenN_step, es.out, EL2.out], by go_num, B3.out⟩
      case measure => simp [intOf]; omega
    · obtain rfl : n = M := by omega
      have o3 : ¬ (n : Int) < n := by omega
      go_wp2_with fail
      refine (SD.out _).mono ?_
      rintro e w1 ⟨rfl, hq1⟩
      have BX := Lib.hid (HBB.out.trans (hq1.mono HBB.out.size))
      clear hq1
      go_wp2
      go_ret
      exact ⟨by rw [EL.out, es.out]; rfl, HBL.out.trans (BX.out.mono HBL.out.size)⟩

end Go.Proofs.Ytgnmiilmmbblmaa
