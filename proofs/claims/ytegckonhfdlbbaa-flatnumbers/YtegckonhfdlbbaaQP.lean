/- Contract of mutoscoperef8.Map: for all maps and places what the plain arithmetic says, in memory of its own; of the memory nothing that was there turns. -/
import Derived.Test.YtegckonhfdlbbaaQM
import Derived.Test.YtegckonhfdlbbaaKN7
namespace Go.Proofs.Ytegckonhfdlbbaa
open Go.RowKit
open M

def GivesL (w : World) (ps : List Pt) (e : Ending) (w' : World) : Prop := ∃ v, e = .returned v ∧ Pown w' w.heap.size v ps ∧ Below w.heap.size w w'
theorem Ht.eight {W w' : World} {gm g o n : Nat} {a b c d e f : Int} {ps : List Pt} {t : TypeId} (h : Ht W w') (H0 : Has W gm (mCells a b c d e f) t) (H1 : Prow W g o ps) (hn : n < ps.length) :
    Ht W w' ∧ w'.cell? ⟨gm, 0, none⟩ = some (.int .i64 a) ∧ w'.cell? ⟨gm, 1, none⟩ = some (.int .i64 b) ∧ w'.cell? ⟨gm, 2, none⟩ = some (.int .i64 c) ∧ w'.cell? ⟨gm, 3, none⟩ = some (.int .i64 d) ∧ w'.cell? ⟨gm, 4, none⟩ = some (.int .i64 e) ∧ w'.cell? ⟨gm, 5, none⟩ = some (.int .i64 f) ∧ w'.cell? ⟨g, o + n * 2, none⟩ = some (.int .i64 (pt ps n).x) ∧ w'.cell? ⟨g, o + n * 2 + 1, none⟩ = some (.int .i64 (pt ps n).y) := by
  have K0 := H0.below h.below H0.lt
  have K1 := H1.block (h.below.block g (H1.lt (by omega)))
  exact ⟨h, K0.cell 0 _ rfl, K0.cell 1 _ rfl, K0.cell 2 _ rfl, K0.cell 3 _ rfl, K0.cell 4 _ rfl, K0.cell 5 _ rfl, K1.c0 n hn, K1.c1 n hn⟩
theorem Ht.grown {W w' w'' : World} {row : Option Nat} (h : Ht W w') (hg : w'.grownBy w'' row) (hr : ∀ k, row = some k → W.heap.size ≤ k) : Ht W w'' := ⟨h.below.grown hg h.below.size hr⟩

set_option maxHeartbeats 2000000 in
theorem r8_map (ma mb mc md me mf : Int) {v : Value} {ps : List Pt} {w : World} (h : Psl w v ps) :
    Calls Try.prog 31 #[.agg (mCells ma mb mc md me mf), v] w (GivesL w (mapL ma mb mc md me mf ps)) := by
  obtain ⟨B, hB⟩ : ∃ B, w.heap.size = B := ⟨_, rfl⟩
  obtain ⟨w1, hW⟩ : ∃ W, w.alloc (.cells (mCells ma mb mc md me mf) 32) = W := ⟨_, rfl⟩
  have ha : Has w1 B (mCells ma mb mc md me mf) 32 := by rw [← hW]; exact has_new hB
  have hbl : Below B w w1 := by rw [← hW]; exact (Below.refl _ _).alloc (by omega) _
  have hsz : w1.heap.size = B + 1 := by rw [← hW]; simp [hB]
  have HS1 := Lib.hid (h.below hbl (by omega))
  obtain ⟨ao, cap, rfl, hf, _⟩ := h
  obtain ⟨N, hN⟩ : ∃ N, ps.length = N := ⟨_, rfl⟩
  obtain ⟨ms, hms⟩ : ∃ ms, mapL ma mb mc md me mf ps = ms := ⟨_, rfl⟩
  have hlm : ms.length = N := by rw [← hms]; unfold mapL; simp [hN]
  rw [hN] at hf HS1 ⊢
  rw [hms]
  have HN := Lib.hid hN
  have HB := Lib.hid hB
  have HW := Lib.hid hW
  have HA := Lib.hid ha
  have HBL := Lib.hid hbl
  have HSZ := Lib.hid hsz
  have HMS := Lib.hid hms
  have HLM := Lib.hid hlm
  clear hW ha hbl hN hsz hms hlm
  go_enter Try.func31, Try.ntmps31
  go_wp2
  rw [HW.out]
  clear hB
  go_loopw [5, 6] (fun l i wr => ∃ (n : Nat) (rs : List Pt), n ≤ N ∧ i = .int .i64 n ∧ rs.length = n ∧ (∀ j, j < n → pt rs j = pt ms j) ∧ Pown wr (B + 1) l rs ∧ Ht w1 wr) (fun _ i _ => N - (intOf i).toNat)
  case atStart => exact ⟨0, [], by omega, rfl, rfl, fun j hj => by omega, Pown.nil _ _, Ht.refl _⟩
  case round =>
    obtain ⟨n, rs, hn, rfl, q1, q2, q3, hht⟩ := hrel
    have hsz := HSZ.out
    by_cases hlt : n < N
    · obtain ⟨g1, o1, e1, r1, l1⟩ := HS1.out.row (by omega)
      subst e1
      have EM : pt ms n = ⟨place (add (add (mul ma (pt ps n).x) (mul mc (pt ps n).y)) me), place (add (add (mul mb (pt ps n).x) (mul md (pt ps n).y)) mf)⟩ := by rw [← HMS.out]; unfold mapL; rw [pt_map _ (by omega)]; rfl
      have HEM := Lib.hid EM
      have AP := Lib.hid (fun w => r3_apply ma mb mc md me mf (pt ps n).x (pt ps n).y w)
      have S8 := Lib.hid (fun (w' : World) (h : Ht w1 w') => h.eight HA.out r1 (show n < ps.length by omega))
      have Q1 := Lib.hid q1
      have Q2 := Lib.hid q2
      have Q3 := Lib.hid q3
      have HT := Lib.hid hht
      have NF : Hid (n ≤ 1000) := Lib.hid (by omega)
      have o3 : (n : Int) < N := by omega
      have SL : Hid (∀ k, Value.ownBlock u5 = some k → w1.heap.size ≤ k) := Lib.hid (fun k hk => by have := (q3.base k hk).1; omega)
      obtain ⟨x, hx⟩ : ∃ x, (pt ps n).x = x := ⟨_, rfl⟩
      obtain ⟨y, hy⟩ : ∃ x, (pt ps n).y = x := ⟨_, rfl⟩
      rw [hx, hy] at S8 AP HEM
      clear EM q1 q2 q3 hht r1 l1 HS1 HA HMS hx hy
      go_wp2_with fail
      go_region_held3 (fun w' => Ht w1 w' ∧ w'.cell? ⟨B, 0, none⟩ = some (.int .i64 ma) ∧ w'.cell? ⟨B, 1, none⟩ = some (.int .i64 mb) ∧ w'.cell? ⟨B, 2, none⟩ = some (.int .i64 mc) ∧ w'.cell? ⟨B, 3, none⟩ = some (.int .i64 md) ∧ w'.cell? ⟨B, 4, none⟩ = some (.int .i64 me) ∧ w'.cell? ⟨B, 5, none⟩ = some (.int .i64 mf) ∧ w'.cell? ⟨g1, o1 + n * 2, none⟩ = some (.int .i64 x) ∧ w'.cell? ⟨g1, o1 + n * 2 + 1, none⟩ = some (.int .i64 y))
        ((go_split_ands; first | exact S8.out _ HT.out.drew | exact S8.out _ h4 | exact S8.out _ (Ht.alloc h2 _) | exact S8.out _ h2))
        (first
          | (go_at_call 37; refine (AP.out _).mono ?_; rintro e w2 ⟨rfl, hq⟩; have h2 := Ht.call HT.out.drew hq; have O2 := Lib.hid (Q3.out.drew.below hq (Nat.le_refl _)); have S2 : Hid (B + 1 ≤ (w2.alloc (.cells (pCells ⟨place (add (add (mul ma x) (mul mc y)) me), place (add (add (mul mb x) (mul md y)) mf)⟩) 35)).heap.size) := Lib.hid (by have := h2.below.size; simp; omega))
          | (refine step_append_one (by rfl) (.tmp 13) (.tmp 20) (by rfl) n Q1.out NF.out (by rfl) w2.heap.size (by rfl) ⟨place (add (add (mul ma x) (mul mc y)) me), place (add (add (mul mb x) (mul md y)) mf)⟩ _ has_new0 rfl (O2.out.alloc _) S2.out ?_; intro g' cap' w4 ho4 hg4; have h4 := Ht.grown (Ht.alloc h2 _) hg4 SL.out; have O4 := Lib.hid ho4))
      all_goals
        have R9 := Lib.hid (show ∀ j, j < n + 1 → pt (rs ++ [⟨place (add (add (mul ma x) (mul mc y)) me), place (add (add (mul mb x) (mul md y)) mf)⟩]) j = pt ms j by rw [← HEM.out]; exact pts_snoc Q1.out Q2.out)
        have H4 := Lib.hid h4
        clear h4 h2
        go_wp2
        go_roundw
        case rel => exact ⟨n + 1, _, by omega, by go_num, by simp [Q1.out], R9.out, O4.out, H4.out⟩
        case measure => simp [intOf]; omega
    · obtain rfl : n = N := by omega
      have e : rs = ms := pts_ext (by rw [HLM.out]; exact q1) (by rw [q1]; exact q2)
      subst e
      have R : Hid (GivesL w rs (.returned u5) wr) := Lib.hid ⟨_, rfl, q3.lower (by have := HB.out; omega), by rw [HB.out]; exact HBL.out.trans (hht.below.mono (by omega))⟩
      have o3 : (n : Int) ≤ n := by omega
      clear q1 q2 q3 hht
      go_wp2
      go_ret
      exact R.out

end Go.Proofs.Ytegckonhfdlbbaa
