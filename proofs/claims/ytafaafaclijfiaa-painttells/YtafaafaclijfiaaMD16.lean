/- Contract of mutoscopelaw16.made: for every tape a paint whose colours are bytes; of the memory nothing that was there turns. -/
import Derived.Test.YtafaafaclijfiaaPaD
import Derived.Test.YtafaafaclijfiaaTK5
import Derived.Test.YtafaafaclijfiaaWide
import Derived.Test.YtafaafaclijfiaaCpM
namespace Go.Proofs.Ytafaafaclijfiaa
open Go Go.RowKit
open M

theorem tp_start16 {w w' : World} {g : Nat} {l : Value} (hN : Nums w l) (hh : Has w' g #[l, .int .i64 0] 44) (hb : Below w.heap.size w w') (hg : w.heap.size ≤ g) : Tp w' g l := by
  rcases hN with ⟨ao, cap, hv⟩ | ⟨b, o, n, cap, hv, h0, h1, hc⟩
  · exact Or.inl ⟨ao, cap, hv, hh⟩
  · have hlt : ∀ i, i < n → b < w.heap.size := fun i hi => by
      obtain ⟨x, hx⟩ := hc i hi
      exact World.block_lt_of_cell? w _ hx
    refine Or.inr ⟨b, o, n, cap, 0, hv, h0, by have := hlt 0 h0; omega, h1, Nat.zero_le _, hh, fun i hi => ?_⟩
    obtain ⟨x, hx⟩ := hc i hi
    exact ⟨x, (hb.cell (p := ⟨b, _, _⟩) (hlt i hi)).trans hx⟩
theorem nums_shape16 {w : World} {v : Value} (h : Nums w v) : ∃ ao n cap, v = .slice ao n cap := by
  rcases h with ⟨ao, cap, rfl⟩ | ⟨b, o, n, cap, rfl, _⟩
  · exact ⟨_, _, _, rfl⟩
  · exact ⟨_, _, _, rfl⟩
theorem below_on16 {w w1 w' : World} {B g : Nat} (h1 : Below B w w1) (h : w1.grownBy w' (some g)) (hg : B ≤ g) (hs : B ≤ w1.heap.size) : Below B w w' :=
  ⟨h.os.trans h1.os, h.tape.trans h1.tape, h.output.trans h1.output, Nat.le_trans h1.size h.size, fun k hk => (h.block k (by omega) (fun e => by simp at e; omega)).trans (h1.block k hk)⟩
theorem nums16_on {w w' : World} {v : Value} (h : Nums w v) (hb : Below w.heap.size w w') : Nums w' v := by
  rcases h with h | ⟨b, o, n, cap, hv, h0, h1, hc⟩
  · exact Or.inl h
  · refine Or.inr ⟨b, o, n, cap, hv, h0, h1, fun i hi => ?_⟩
    obtain ⟨x, hx⟩ := hc i hi
    exact ⟨x, (hb.cell (p := ⟨b, _, _⟩) (World.block_lt_of_cell? w _ hx)).trans hx⟩

def Mad16 (w : World) (e : Ending) (w' : World) : Prop := ∃ c : Pa, e = .returned (.agg (paCells c)) ∧ PaOk c ∧ Below w.heap.size w w'

set_option maxRecDepth 100000 in
set_option maxHeartbeats 8000000 in
theorem l16_made {w : World} {l : Value} (hN : Nums w l) : Calls Try.prog 9 #[l] w (Mad16 w) := by
  obtain ⟨B, hB⟩ : ∃ B, w.heap.size = B := ⟨_, rfl⟩
  obtain ⟨W, hW⟩ : ∃ W, (w.alloc (.cells zPa 27)).alloc (.cells #[l, .int .i64 0] 44) = W := ⟨_, rfl⟩
  have hb0 : Below w.heap.size w W := by rw [← hW]; exact ((Below.refl _ _).alloc (Nat.le_refl _) _).alloc (by simp) _
  have T0 : Tp W (B + 1) l := tp_start16 hN (by rw [← hW]; exact has_new (by simp [hB])) hb0 (by omega)
  have K0 : Has W B zPa 27 := by rw [← hW]; exact (has_new hB).alloc _
  obtain ⟨a1, n1, c1, rfl⟩ := nums_shape16 hN
  have HW := Lib.hid hW
  have B0 := Lib.hid hb0
  have T0 := Lib.hid T0
  have K0 := Lib.hid K0
  have HB := Lib.hid hB
  clear hb0 hW hN
  go_enter Try.func9, Try.ntmps9
  go_upto_region 2 with fail
  rw [HW.out]
  go_wp2_with fail
  clear hB
  refine (t_next (B + 1) _ 4 _ (by omega) (by omega) T0.out).mono ?_
  rintro e w1 ⟨k, rfl, k0, k1, ht, hg⟩
  have T1 := Lib.hid ht
  have B1 := Lib.hid (below_on16 B0.out hg (by have := HB.out; omega) B0.out.size)
  have K1 := Lib.hid (has_grown K0.out hg (by omega))
  clear ht hg T0 B0 K0
  go_wp2_with fail
  refine (t_next (B + 1) _ 256 _ (by omega) (by omega) T1.out).mono ?_
  rintro e w2 ⟨a, rfl, a0, a1, ht, hg⟩
  have T2 := Lib.hid ht
  have B2 := Lib.hid (below_on16 B1.out hg (by have := HB.out; omega) B1.out.size)
  have K2 := Lib.hid (has_grown K1.out hg (by omega))
  clear ht hg T1 B1 K1
  go_wp2_with fail
  refine (t_next (B + 1) _ 256 _ (by omega) (by omega) T2.out).mono ?_
  rintro e w3 ⟨b, rfl, b0, b1, ht, hg⟩
  have T3 := Lib.hid ht
  have B3 := Lib.hid (below_on16 B2.out hg (by have := HB.out; omega) B2.out.size)
  have K3 := Lib.hid (has_grown K2.out hg (by omega))
  clear ht hg T2 B2 K2
  go_wp2_with fail
  refine (t_next (B + 1) _ 256 _ (by omega) (by omega) T3.out).mono ?_
  rintro e w4 ⟨c, rfl, c0, c1, ht, hg⟩
  have T4 := Lib.hid ht
  have B4 := Lib.hid (below_on16 B3.out hg (by have := HB.out; omega) B3.out.size)
  have K4 := Lib.hid (has_grown K3.out hg (by omega))
  clear ht hg T3 B3 K3
  go_wp2_with fail
  refine (t_next (B + 1) _ 256 _ (by omega) (by omega) T4.out).mono ?_
  rintro e w5 ⟨d, rfl, d0, d1, ht, hg⟩
  have T5 := Lib.hid ht
  have B5 := Lib.hid (below_on16 B4.out hg (by have := HB.out; omega) B4.out.size)
  have K5 := Lib.hid (has_grown K4.out hg (by omega))
  clear ht hg T4 B4 K4
  obtain ⟨P, hP⟩ : ∃ P, w5.heap.size = P := ⟨_, rfl⟩
  obtain ⟨V, hV⟩ : ∃ V, w5.alloc (.cells (paCells ⟨k, ⟨a, b, 3, 255⟩, ⟨0, 255, c, d⟩, ⟨0, 0⟩, ⟨0, 0⟩, 0⟩) 27) = V := ⟨_, rfl⟩
  have HP0 : Hid (Has V P (paCells ⟨k, ⟨a, b, 3, 255⟩, ⟨0, 255, c, d⟩, ⟨0, 0⟩, ⟨0, 0⟩, 0⟩) 27) := Lib.hid (by rw [← hV]; exact has_new hP)
  have T6 : Hid (Tp V (B + 1) (Value.slice _ n1 _)) := Lib.hid (by rw [← hV]; exact tp_alloc T5.out _)
  have B6 : Hid (Below w.heap.size w V) := Lib.hid (by rw [← hV]; exact B5.out.alloc B5.out.size _)
  have K6 : Hid (Has V B zPa 27) := Lib.hid (by rw [← hV]; exact K5.out.alloc _)
  have NP : Hid (P ≠ B + 1 ∧ P ≠ B ∧ w.heap.size ≤ P) := Lib.hid (by have := T5.out.lt; have := B5.out.size; omega)
  have TY : Hid (Tp w5 (B + 1) (Value.slice _ n1 _) ∧ w5.heap.size ≤ P) := Lib.hid ⟨T5.out, by omega⟩
  have OK : Hid (∀ p q r, PaOk ⟨k, ⟨a, b, 3, 255⟩, ⟨0, 255, c, d⟩, p, q, r⟩) := Lib.hid (fun p q r => ⟨⟨a0, by simp only; omega, b0, by simp only; omega, by simp only; omega, by simp only; omega, by simp only; omega, by simp only; omega⟩, ⟨by simp only; omega, by simp only; omega, by simp only; omega, by simp only; omega, c0, by simp only; omega, d0, by simp only; omega⟩⟩)
  have HV := Lib.hid hV
  clear hV T5 B5 K5
  go_upto_region 3 with fail
  rw [HV.out]
  clear hP
  go_wp2_with fail
  refine (t_number (B + 1) _ (-9) 20 _ (by omega) (by omega) (by omega) T6.out).mono ?_
  rintro e w6 ⟨px, rfl, -, -, ht, hg⟩
  have T7 := Lib.hid ht
  have B7 := Lib.hid (below_on16 B6.out hg (by have := HB.out; omega) B6.out.size)
  have K7 := Lib.hid (has_grown K6.out hg (by omega))
  have P7 := Lib.hid (has_grown HP0.out hg NP.out.1)
  clear ht hg T6 B6 K6 HP0
  go_wp2_with fail
  refine (t_number (B + 1) _ (-9) 20 _ (by omega) (by omega) (by omega) T7.out).mono ?_
  rintro e w7 ⟨py, rfl, -, -, ht, hg⟩
  have B8 := below_on16 B7.out hg (by have := HB.out; omega) B7.out.size
  have K8 := has_grown K7.out hg (by omega)
  have P8 := has_grown P7.out hg NP.out.1
  obtain ⟨V2, hV2⟩ : ∃ V2, (w7.setCell ⟨P, 9, none⟩ (.int .i64 px)).setCell ⟨P, 10, none⟩ (.int .i64 py) = V2 := ⟨_, rfl⟩
  have hs : w7.grownBy V2 (some P) := by rw [← hV2]; exact grownBy_set (grownBy_set (World.grownBy.refl _ _) _ _) _ _
  have T9 : Hid (Tp V2 (B + 1) (Value.slice _ n1 _)) := Lib.hid (TY.out.1.young ht hs (fun j hj => by simp at hj; have := TY.out.2; omega))
  have B9 : Hid (Below w.heap.size w V2) := Lib.hid (below_on16 B8 hs NP.out.2.2 B8.size)
  have K9 : Hid (Has V2 B zPa 27) := Lib.hid (has_grown K8 hs (Ne.symm NP.out.2.1))
  have P9 : Hid (Has V2 P (paCells ⟨k, ⟨a, b, 3, 255⟩, ⟨0, 255, c, d⟩, ⟨px, py⟩, ⟨0, 0⟩, 0⟩) 27) := Lib.hid (by rw [← hV2]; exact has_set (has_set P8 9 _) 10 _)
  have p9 := P8.cell 9 _ rfl
  have p10 := P8.cell 10 _ rfl
  have fz := has_fro P8
  have HV2 := Lib.hid hV2
  clear hV2 hs ht hg T7 B7 K7 P7 B8 K8 P8
  go_upto_region 4 with fail
  rw [HV2.out]
  clear p9 p10 fz HV2
  go_wp2_with fail
  refine (t_number (B + 1) _ (-9) 20 _ (by omega) (by omega) (by omega) T9.out).mono ?_
  rintro e w8 ⟨qx, rfl, -, -, ht, hg⟩
  have TA := Lib.hid ht
  have BA := Lib.hid (below_on16 B9.out hg (by have := HB.out; omega) B9.out.size)
  have KA := Lib.hid (has_grown K9.out hg (by omega))
  have PA := Lib.hid (has_grown P9.out hg NP.out.1)
  clear ht hg T9 B9 K9 P9
  go_wp2_with fail
  refine (t_number (B + 1) _ (-9) 20 _ (by omega) (by omega) (by omega) TA.out).mono ?_
  rintro e w9 ⟨qy, rfl, -, -, ht, hg⟩
  have BB := below_on16 BA.out hg (by have := HB.out; omega) BA.out.size
  have KB := has_grown KA.out hg (by omega)
  have PB := has_grown PA.out hg NP.out.1
  obtain ⟨V3, hV3⟩ : ∃ V3, (w9.setCell ⟨P, 11, none⟩ (.int .i64 qx)).setCell ⟨P, 12, none⟩ (.int .i64 qy) = V3 := ⟨_, rfl⟩
  have hs : w9.grownBy V3 (some P) := by rw [← hV3]; exact grownBy_set (grownBy_set (World.grownBy.refl _ _) _ _) _ _
  have TC : Hid (Tp V3 (B + 1) (Value.slice _ n1 _)) := Lib.hid (TY.out.1.young ht hs (fun j hj => by simp at hj; have := TY.out.2; omega))
  have BC : Hid (Below w.heap.size w V3) := Lib.hid (below_on16 BB hs NP.out.2.2 BB.size)
  have KC : Hid (Has V3 B zPa 27) := Lib.hid (has_grown KB hs (Ne.symm NP.out.2.1))
  have PC : Hid (Has V3 P (paCells ⟨k, ⟨a, b, 3, 255⟩, ⟨0, 255, c, d⟩, ⟨px, py⟩, ⟨qx, qy⟩, 0⟩) 27) := Lib.hid (by rw [← hV3]; exact has_set (has_set PB 11 _) 12 _)
  have p11 := PB.cell 11 _ rfl
  have p12 := PB.cell 12 _ rfl
  have fz := has_fro PB
  have HV3 := Lib.hid hV3
  clear hV3 hs ht hg TA BA KA PA BB KB PB
  go_upto_region 5 with fail
  rw [HV3.out]
  clear p11 p12 fz HV3
  go_wp2_with fail
  refine (t_number (B + 1) _ (-1) 20 _ (by omega) (by omega) (by omega) TC.out).mono ?_
  rintro e wa ⟨r, rfl, -, -, ht, hg⟩
  have BD := below_on16 BC.out hg (by have := HB.out; omega) BC.out.size
  have KD := has_grown KC.out hg (by omega)
  have PD := has_grown PC.out hg NP.out.1
  obtain ⟨V4, hV4⟩ : ∃ V4, wa.setCell ⟨P, 13, none⟩ (.int .i64 r) = V4 := ⟨_, rfl⟩
  have hs : wa.grownBy V4 (some P) := by rw [← hV4]; exact grownBy_set (World.grownBy.refl _ _) _ _
  have BE : Hid (Below w.heap.size w V4) := Lib.hid (below_on16 BD hs NP.out.2.2 BD.size)
  have KE := has_grown KD hs (Ne.symm NP.out.2.1)
  have PE : Has V4 P (paCells ⟨k, ⟨a, b, 3, 255⟩, ⟨0, 255, c, d⟩, ⟨px, py⟩, ⟨qx, qy⟩, r⟩) 27 := by rw [← hV4]; exact has_set PD 13 _
  have p13 := PD.cell 13 _ rfl
  have fz := has_fro PD
  have HV4 := Lib.hid hV4
  clear hV4 hs ht hg TC BC KC PC BD KD PD
  go_upto_region 6 with fail
  rw [HV4.out]
  clear p13 fz HV4
  have PX := has_setRow (cs := paCells ⟨k, ⟨a, b, 3, 255⟩, ⟨0, 255, c, d⟩, ⟨px, py⟩, ⟨qx, qy⟩, r⟩) KE
  have R := Lib.hid (show Mad16 w (.returned (.agg (paCells ⟨k, ⟨a, b, 3, 255⟩, ⟨0, 255, c, d⟩, ⟨px, py⟩, ⟨qx, qy⟩, r⟩))) (V4.setRow B (paCells ⟨k, ⟨a, b, 3, 255⟩, ⟨0, 255, c, d⟩, ⟨px, py⟩, ⟨qx, qy⟩, r⟩)) from ⟨_, rfl, OK.out _ _ _, below_setRow BE.out (by have := HB.out; omega)⟩)
  apply wp_region_lit
  refine wpList_load_row rfl 27 _ rfl P rfl 27 _ (0, 0) _ PE Try.underlying27 rfl (by kernel_rfl) ?_
  refine wpList_store_row rfl 27 _ _ rfl B (paCells ⟨k, ⟨a, b, 3, 255⟩, ⟨0, 255, c, d⟩, ⟨px, py⟩, ⟨qx, qy⟩, r⟩) rfl rfl 27 _ KE (by kernel_rfl) rfl (by kernel_rfl) ?_
  apply wpList_nil
  obtain ⟨X, hX⟩ : ∃ X, V4.setRow B (paCells ⟨k, ⟨a, b, 3, 255⟩, ⟨0, 255, c, d⟩, ⟨px, py⟩, ⟨qx, qy⟩, r⟩) = X := ⟨_, rfl⟩
  rw [hX] at PX R ⊢
  clear hX KE PE
  go_wp2_with fail
  refine bodyPost_ret (v := .agg (paCells ⟨k, ⟨a, b, 3, 255⟩, ⟨0, 255, c, d⟩, ⟨px, py⟩, ⟨qx, qy⟩, r⟩)) (results_cell_row rfl _ _ B 27 _ (0, 0) _ rfl PX Try.underlying27 rfl (by kernel_rfl)) rfl ?_
  exact R.out

end Go.Proofs.Ytafaafaclijfiaa
