/- Contracts of stroke.poly (its list is the call's own, and is written into) and of the reference's shape: for all places what the plain arithmetic says; of the memory nothing else that was there turns. -/
import Derived.Test.YtopepgifhnfbiaaU3
namespace Go.Proofs.Ytopepgifhnfbiaa
open Go Go.RowKit
open M

/-- A list of which the first n places are held. -/
def mapN (ps : List Pt) : Nat → List Pt
  | 0 => ps
  | n + 1 => (mapN ps n).set n (plc (pt ps n))
theorem mapN_length (ps : List Pt) : ∀ n, (mapN ps n).length = ps.length
  | 0 => rfl
  | n + 1 => by rw [mapN, List.length_set, mapN_length ps n]
theorem mapN_pt (ps : List Pt) : ∀ n k, k < ps.length → pt (mapN ps n) k = if k < n then plc (pt ps k) else pt ps k
  | 0, k, _ => by rw [if_neg (by omega)]; rfl
  | n + 1, k, hk => by
    rw [mapN]
    by_cases h : n = k
    · subst h
      rw [pt_set_eq (by rw [mapN_length]; exact hk), if_pos (by omega)]
    · rw [pt_set_ne h, mapN_pt ps n k hk]
      by_cases h2 : k < n
      · rw [if_pos h2, if_pos (by omega)]
      · rw [if_neg h2, if_neg (by omega)]
theorem mapN_all (ps : List Pt) : mapN ps ps.length = ps.map plc := by
  refine pts_ext (by rw [mapN_length, List.length_map]) fun i hi => ?_
  rw [mapN_length] at hi
  rw [mapN_pt ps _ i hi, if_pos hi, pt_map plc hi]
theorem grown_weak {w w' : World} {r : Option Nat} (h : w.grownBy w' none) : w.grownBy w' r := ⟨h.os, h.tape, h.output, h.size, fun k hk _ => h.block k hk (by simp)⟩
theorem grown_new {w V : World} {r : Option Nat} {R : Nat} (h : w.grownBy V r) (hR : w.heap.size ≤ R) (i : Nat) (u : Value) : w.grownBy (V.setCell ⟨R, i, none⟩ u) r :=
  ⟨h.os, h.tape, h.output, by have := h.size; simpa using this, fun k hk hr => (heap_setCell_other V ⟨R, i, none⟩ k u (fun e => by simp at e; omega)).trans (h.block k hk hr)⟩
theorem grown_more {w V V' : World} {r : Option Nat} (h : w.grownBy V r) (hb : Below V.heap.size V V') : w.grownBy V' r := grownBy_trans h (grown_weak (grownBy_below hb (Nat.le_refl _)))
/-- A poly of just these places, in memory of its own, is returned; of what was there the list in block g alone has turned. -/
def GivesG (w : World) (g : Nat) (ps : List Pt) (e : Ending) (w' : World) : Prop := ∃ l, e = .returned (.agg #[.bool true, l]) ∧ Pown w' w.heap.size l ps ∧ w.grownBy w' (some g)

theorem map_take_snoc {ps : List Pt} {n : Nat} (h : n < ps.length) : (ps.map plc).take n ++ [plc (pt ps n)] = (ps.map plc).take (n + 1) := by
  rw [← pt_map plc h]
  exact pt_take_snoc (by rw [List.length_map]; exact h)

set_option maxRecDepth 100000 in
set_option maxHeartbeats 2000000 in
theorem r9_shape {v : Value} {ps : List Pt} {w : World} (h : Psl w v ps) (hm : ps.length ≤ 8796093022000) : Calls Try.prog 37 #[v] w (Gives w true (shapeL ps)) := by
  obtain ⟨R, hR⟩ : ∃ R, w.heap.size = R := ⟨_, rfl⟩
  obtain ⟨W, hW⟩ : ∃ W, w.alloc (.cells #[.bool false, .slice none 0 0] 31) = W := ⟨_, rfl⟩
  have kR : Has W R #[.bool false, .slice none 0 0] 31 := by rw [← hW]; exact has_new hR
  have bW : Below w.heap.size w W := by rw [← hW]; exact (Below.refl _ _).alloc (Nat.le_refl _) _
  have sW : W.heap.size = R + 1 := by rw [← hW]; simp [hR]
  have hs := h.below bW (Nat.le_refl _)
  obtain ⟨ao, cap, rfl, hf, _⟩ := h
  obtain ⟨N, hN⟩ : ∃ N, ps.length = N := ⟨_, rfl⟩
  rw [hN] at hf hs hm ⊢
  have HW := Lib.hid hW
  have HR := Lib.hid hR
  have KR := Lib.hid kR
  have BW := Lib.hid bW
  have SW := Lib.hid sW
  have HS := Lib.hid hs
  have HN := Lib.hid hN
  clear hW kR bW sW hs hN
  go_enter Try.func37, Try.ntmps37
  go_upto_region 1 with fail
  rw [HW.out]
  clear hR
  go_wp2_with fail
  go_loopw [3, 4] (fun o i wr => ∃ n : Nat, n ≤ N ∧ i = .int .i64 n ∧ Pown wr (R + 1) o ((ps.map plc).take n) ∧ Below W.heap.size W wr) (fun _ i _ => N - (intOf i).toNat)
  case atStart => exact ⟨0, by omega, rfl, by rw [List.take_zero]; exact Pown.nil _ _, Below.refl _ _⟩
  case round =>
    obtain ⟨n, hn, rfl, ho, hb⟩ := hrel
    have HO := Lib.hid ho
    have BR := Lib.hid hb
    have htl : ((ps.map plc).take n).length = n := by rw [List.length_take, List.length_map, HN.out]; omega
    obtain ⟨al, cl, el⟩ := ho.len
    rw [htl] at el
    subst el
    by_cases hlt : n < N
    · have o3 : (n : Int) < N := by omega
      clear ho hb
      obtain ⟨g, o, e1, row⟩ : ∃ g o, ao = some ⟨g, o, none⟩ ∧ Prow wr g o ps := by
        obtain ⟨ao', cap', hv, _, hr⟩ := HS.out.below BR.out (Nat.le_refl _)
        simp at hv
        obtain ⟨rfl, _⟩ := hv
        exact hr (by have := HN.out; omega)
      subst e1
      have x0 := row.c0 n (by have := HN.out; omega)
      have x1 := row.c1 n (by have := HN.out; omega)
      have et := map_take_snoc (ps := ps) (n := n) (by have := HN.out; omega)
      obtain ⟨p, hpp⟩ : ∃ p, pt ps n = p := ⟨_, rfl⟩
      rw [hpp] at x0 x1 et
      obtain ⟨q, hq⟩ : ∃ q, plc p = q := ⟨_, rfl⟩
      have ET : Hid ((ps.map plc).take n ++ [q] = (ps.map plc).take (n + 1)) := Lib.hid (by rw [← hq]; exact et)
      have HQ := Lib.hid hq
      clear row hpp hq et
      go_wp2_with fail
      refine (r9_placed _ _).mono ?_
      rintro e w3 ⟨rfl, hb3⟩
      rw [HQ.out]
      have OA := Lib.hid ((HO.out.below hb3 (Nat.le_refl _)).alloc (.cells (pCells q) 28))
      have SA : Hid (R + 1 ≤ (w3.alloc (.cells (pCells q) 28)).heap.size) := Lib.hid (by have := BR.out.size; have := SW.out; have := hb3.size; simp; omega)
      have BA := Lib.hid ((BR.out.trans (hb3.mono BR.out.size)).alloc (by have := BR.out.size; have := hb3.size; omega) (.cells (pCells q) 28))
      clear hb3 x0 x1
      go_wp2_with (at_builtin; refine wpList_append_pl rfl _ _ rfl n htl rfl w3.heap.size 0 1 1 rfl [q] rfl (by decide) (by omega) (prow_one q _) OA.out SA.out ?_)
      intro g' cap' w4 ho4 hg4 hat4
      have O4 : Hid (Pown w4 (R + 1) (.slice (some ⟨g', 0, none⟩) (n + 1) cap') ((ps.map plc).take (n + 1))) := Lib.hid (by rw [← ET.out]; exact ho4)
      have B4 : Hid (Below W.heap.size W w4) := Lib.hid (BA.out.grown hg4 BA.out.size (fun k hk => by have := (HO.out.base k hk).1; have := SW.out; omega))
      clear ho4 hg4 hat4
      go_wp2
      go_roundw
      case rel => exact ⟨n + 1, by omega, by go_num, O4.out, B4.out⟩
      case measure => simp [intOf]; omega
    · obtain rfl : n = N := by omega
      have o3 : ¬ (n : Int) < n := by omega
      have em : (ps.map plc).take n = ps.map plc := List.take_of_length_le (by rw [List.length_map, HN.out]; exact Nat.le_refl _)
      rw [em] at ho
      have TU := Lib.hid (r9_turned (ho.sl (by rw [List.length_map, HN.out]; exact hf)) (by rw [List.length_map, HN.out]; exact hm))
      have ES : Hid (turnL (ps.map plc) = shapeL ps) := Lib.hid rfl
      rw [ES.out] at TU
      clear ho hb em
      go_wp2_with fail
      refine TU.out.mono ?_
      rintro e w4 ⟨l, rfl, ho4, hb4⟩
      obtain ⟨sl, hsl⟩ : ∃ k, (shapeL ps).length = k := ⟨_, rfl⟩
      obtain ⟨al4, cl4, el4⟩ := ho4.len
      rw [hsl] at el4
      subst el4
      have b4 := BR.out.trans (hb4.mono BR.out.size)
      have k4 := KR.out.below b4 KR.out.lt
      have c0 := k4.cell 0 _ rfl
      have c1 := k4.cell 1 _ rfl
      have f0 := has_fro k4
      have kz := has_set (has_set k4 0 (.bool true)) 1 (.slice al4 sl cl4)
      have u0 := kz.cell 0 _ rfl
      have u1 := kz.cell 1 _ rfl
      have G5 := Lib.hid (gives_put (w := w) (c := true) (r := R) HR.out (ho4.lower (by have := BR.out.size; have := SW.out; omega)) (fun e => by have := (ho4.base _ e).1; have := BR.out.size; have := SW.out; omega) (Nat.le_refl _) (HR.out ▸ BW.out.trans (b4.mono BW.out.size)) rfl (.bool true) _ rfl)
      clear ho4 hb4 k4 b4 kz hsl
      go_wp2
      refine bodyPost_ret (v := .agg #[.bool true, .slice al4 sl cl4]) (by simp [results, Try.results37, go_sem, u0, u1]) rfl ?_
      exact G5.out

end Go.Proofs.Ytopepgifhnfbiaa
