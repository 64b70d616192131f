/- Contracts of slices.Reverse at lists of places, of stroke.Turned and of the reference's Turned: for all lists what the plain arithmetic says, in memory of their own; of the memory nothing that was there turns. -/
import Derived.Test.YtopepgifhnfbiaaU2
import Derived.Test.YtopepgifhnfbiaaPC
import Derived.Test.YtopepgifhnfbiaaAP8
import Derived.BigRegion
namespace Go.Proofs.Ytopepgifhnfbiaa
open Go Go.RowKit
open M

theorem gdrew {a b : World} {r : Option Nat} (h : a.grownBy b r) : a.grownBy b.drew r := ⟨h.os, h.tape, h.output, h.size, h.block⟩
/-- A list of which the first n and the last n places have changed their places. -/
def revN (ps : List Pt) : Nat → List Pt
  | 0 => ps
  | n + 1 => ((revN ps n).set n (pt (revN ps n) (ps.length - 1 - n))).set (ps.length - 1 - n) (pt (revN ps n) n)
theorem revN_length (ps : List Pt) : ∀ n, (revN ps n).length = ps.length
  | 0 => rfl
  | n + 1 => by rw [revN, List.length_set, List.length_set, revN_length ps n]
theorem revN_pt (ps : List Pt) : ∀ n, 2 * n ≤ ps.length → ∀ k, k < ps.length → pt (revN ps n) k = if k < n ∨ ps.length - n ≤ k then pt ps (ps.length - 1 - k) else pt ps k
  | 0, _, k, hk => by rw [if_neg (by omega)]; rfl
  | n + 1, hn, k, hk => by
    have ih := revN_pt ps n (by omega)
    have e1 : pt (revN ps n) (ps.length - 1 - n) = pt ps (ps.length - 1 - n) := by rw [ih _ (by omega), if_neg (by omega)]
    have e2 : pt (revN ps n) n = pt ps n := by rw [ih _ (by omega), if_neg (by omega)]
    rw [revN, e1, e2]
    have hl := revN_length ps n
    by_cases h1 : ps.length - 1 - n = k
    · rw [if_pos (by omega), h1, pt_set_eq (by rw [List.length_set, hl]; omega), ← h1, show ps.length - 1 - (ps.length - 1 - n) = n by omega]
    · rw [pt_set_ne h1]
      by_cases h2 : n = k
      · subst h2
        rw [if_pos (by omega), pt_set_eq (by rw [hl]; omega)]
      · rw [pt_set_ne h2, ih k hk]
        by_cases h3 : k < n ∨ ps.length - n ≤ k
        · rw [if_pos h3, if_pos (by omega)]
        · rw [if_neg h3, if_neg (by omega)]
theorem revN_all {ps : List Pt} {n : Nat} (h1 : 2 * n ≤ ps.length) (h2 : ps.length ≤ 2 * n + 1) : revN ps n = ps.reverse := by
  refine pts_ext (by rw [revN_length, List.length_reverse]) fun i hi => ?_
  rw [revN_length] at hi
  rw [revN_pt ps n h1 i hi, pt_reverse hi]
  split
  · rfl
  · rw [show ps.length - 1 - i = i by omega]

/-- A list of just these places, of the call's own, is returned. -/
def GivesP (w : World) (ps : List Pt) (e : Ending) (w' : World) : Prop := ∃ v, e = .returned v ∧ Pown w' w.heap.size v ps ∧ Below w.heap.size w w'
theorem areaL_nil : areaL [] = 0 := rfl

theorem pt_take_snoc {qs : List Pt} {n : Nat} (h : n < qs.length) : qs.take n ++ [pt qs n] = qs.take (n + 1) := by
  rw [List.take_add_one]
  unfold pt
  rw [List.getD_eq_getElem?_getD, List.getElem?_eq_getElem h]
  rfl

set_option maxRecDepth 100000 in
set_option maxHeartbeats 2000000 in
theorem r9_turned {v : Value} {ps : List Pt} {w : World} (h : Psl w v ps) (hm : ps.length ≤ 8796093022000) : Calls Try.prog 54 #[v] w (GivesP w (turnL ps)) := by
  have AR := Lib.hid (r9_area h)
  have HS := Lib.hid h
  obtain ⟨ao, cap, rfl, hf, _⟩ := h
  obtain ⟨N, hN⟩ : ∃ N, ps.length = N := ⟨_, rfl⟩
  rw [hN] at hf HS AR hm ⊢
  obtain ⟨A, hA⟩ : ∃ A, areaL ps = A := ⟨_, rfl⟩
  rw [hA] at AR
  obtain ⟨qs, hqs⟩ : ∃ qs, turnL ps = qs := ⟨_, rfl⟩
  obtain ⟨B, hB⟩ : ∃ B, w.heap.size = B := ⟨_, rfl⟩
  have HL : Hid (qs.length = N) := Lib.hid (by rw [← hqs, turnL_length, hN])
  obtain ⟨b, hbA⟩ : ∃ b, decide (A < 0) = b := ⟨_, rfl⟩
  have HP : Hid (∀ n, n < N → pt qs n = if b = true then pt ps (N - 1 - n) else pt ps n) := Lib.hid (fun n hn => by
    rw [← hqs, ← hbA]
    by_cases h : A < 0
    · rw [turnL_back (by rw [hA]; exact h), pt_reverse (by omega), hN, if_pos (by simpa using h)]
    · rw [turnL_stay (by rw [hA]; exact h), if_neg (by simpa using h)])
  rw [hqs]
  have HN := Lib.hid hN
  have HB := Lib.hid hB
  clear hN hA hqs
  go_enter Try.func54, Try.ntmps54
  go_wp2_with fail
  refine AR.out.mono ?_
  rintro e w1 ⟨rfl, hb1⟩
  have B1 := Lib.hid hb1
  clear hb1
  go_upto_region 3 with fail
  clear hbA
  go_wp2_with fail
  go_loopw [3, 5] (fun o i wr => ∃ n : Nat, n ≤ N ∧ i = .int .i64 n ∧ Pown wr B o (qs.take n) ∧ Below w.heap.size w wr) (fun _ i _ => N - (intOf i).toNat)
  case atStart => exact ⟨0, by omega, rfl, by rw [List.take_zero]; exact Pown.nil _ _, B1.out⟩
  case round =>
    obtain ⟨n, hn, rfl, ho, hb⟩ := hrel
    have HO := Lib.hid ho
    have BR := Lib.hid hb
    have htl : (qs.take n).length = n := by rw [List.length_take, HL.out]; omega
    obtain ⟨al, cl, el⟩ := ho.len
    rw [htl] at el
    subst el
    clear ho hb hB
    by_cases hlt : n < N
    · have o3 : (n : Int) < N := by omega
      obtain ⟨g, o, e1, row⟩ : ∃ g o, ao = some ⟨g, o, none⟩ ∧ Prow wr g o ps := by
        obtain ⟨ao', cap', hv, _, hr⟩ := HS.out.below BR.out (Nat.le_refl _)
        simp at hv
        obtain ⟨rfl, _⟩ := hv
        exact hr (by have := HN.out; omega)
      subst e1
      have hp := HP.out n hlt
      cases b
      case true =>
        rw [if_pos rfl] at hp
        obtain ⟨j, hj⟩ : ∃ j, N - 1 - n = j := ⟨_, rfl⟩
        rw [hj] at hp
        have hj' : (N : Int) - 1 - (n : Int) = (j : Int) := by omega
        have oj : (j : Int) < N := by omega
        have x0 := row.c0 j (by have := HN.out; omega)
        have x1 := row.c1 j (by have := HN.out; omega)
        rw [← hp] at x0 x1
        obtain ⟨p, hpp⟩ : ∃ p, pt qs n = p := ⟨_, rfl⟩
        rw [hpp] at x0 x1
        have ET : Hid (qs.take n ++ [p] = qs.take (n + 1)) := Lib.hid (by rw [← hpp]; exact pt_take_snoc (by rw [HL.out]; exact hlt))
        have OA := Lib.hid (HO.out.alloc (.cells (pCells p) 28))
        have SA : Hid (B ≤ (wr.alloc (.cells (pCells p) 28)).heap.size) := Lib.hid (by have := BR.out.size; have := HB.out; simp; omega)
        have BA := Lib.hid (BR.out.alloc BR.out.size (.cells (pCells p) 28))
        clear row hp hpp hj
        go_wp2_with (at_builtin; refine wpList_append_pl rfl _ _ rfl n htl rfl wr.heap.size 0 1 1 rfl [p] rfl (by decide) (by omega) (prow_one p _) OA.out SA.out ?_)
        intro g' cap' w4 ho4 hg4 hat4
        have O4 : Hid (Pown w4 B (.slice (some ⟨g', 0, none⟩) (n + 1) cap') (qs.take (n + 1))) := Lib.hid (by rw [← ET.out]; exact ho4)
        have B4 : Hid (Below w.heap.size w w4) := Lib.hid (BA.out.grown hg4 BA.out.size (fun k hk => by have := (HO.out.base k hk).1; have := HB.out; omega))
        clear ho4 hg4 hat4 x0 x1
        go_wp2
        go_roundw
        case rel => exact ⟨n + 1, by omega, by go_num, O4.out, B4.out⟩
        case measure => simp [intOf]; omega
      case false =>
        rw [if_neg (by simp)] at hp
        have x0 := row.c0 n (by have := HN.out; omega)
        have x1 := row.c1 n (by have := HN.out; omega)
        rw [← hp] at x0 x1
        obtain ⟨p, hpp⟩ : ∃ p, pt qs n = p := ⟨_, rfl⟩
        rw [hpp] at x0 x1
        have ET : Hid (qs.take n ++ [p] = qs.take (n + 1)) := Lib.hid (by rw [← hpp]; exact pt_take_snoc (by rw [HL.out]; exact hlt))
        have OA := Lib.hid (HO.out.alloc (.cells (pCells p) 28))
        have SA : Hid (B ≤ (wr.alloc (.cells (pCells p) 28)).heap.size) := Lib.hid (by have := BR.out.size; have := HB.out; simp; omega)
        have BA := Lib.hid (BR.out.alloc BR.out.size (.cells (pCells p) 28))
        clear row hp hpp
        go_wp2_with (at_builtin; refine wpList_append_pl rfl _ _ rfl n htl rfl wr.heap.size 0 1 1 rfl [p] rfl (by decide) (by omega) (prow_one p _) OA.out SA.out ?_)
        intro g' cap' w4 ho4 hg4 hat4
        have O4 : Hid (Pown w4 B (.slice (some ⟨g', 0, none⟩) (n + 1) cap') (qs.take (n + 1))) := Lib.hid (by rw [← ET.out]; exact ho4)
        have B4 : Hid (Below w.heap.size w w4) := Lib.hid (BA.out.grown hg4 BA.out.size (fun k hk => by have := (HO.out.base k hk).1; have := HB.out; omega))
        clear ho4 hg4 hat4 x0 x1
        go_wp2
        go_roundw
        case rel => exact ⟨n + 1, by omega, by go_num, O4.out, B4.out⟩
        case measure => simp [intOf]; omega
    · obtain rfl : n = N := by omega
      have o3 : ¬ (n : Int) < n := by omega
      have R : Hid (GivesP w qs (.returned (.slice al n cl)) wr) := Lib.hid ⟨_, rfl, by rw [HB.out]; have := HO.out; rwa [List.take_of_length_le (by rw [HL.out]; exact Nat.le_refl _)] at this, BR.out⟩
      go_wp2
      go_ret
      exact R.out

end Go.Proofs.Ytopepgifhnfbiaa
