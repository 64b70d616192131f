/- Contracts of mutoscopekeep's Tape (color, paint): for every tape a colour of bytes, a paint that may be; the tape alone turns. -/
import Derived.Test.YtglbfpjjnboeaaaTG
import Derived.Test.YtglbfpjjnboeaaaShD
import Derived.Test.YtglbfpjjnboeaaaWide
namespace Go.Proofs.Ytglbfpjjnboeaaa
open Go.RowKit
open M

def Colorss (w : World) (g : Nat) (v : Value) (e : Ending) (w' : World) : Prop := ∃ c : Cr, e = .returned (.agg (cCells c)) ∧ c.Ok ∧ Tp w' g v ∧ w.grownBy w' (some g)

/-- Four numbers put into a block that is younger than w. -/
theorem four_cells {w w1 : World} {g h : Nat} {v : Value} (a b c d : Value) (ht0 : Tp w g v) (hh : w.heap.size ≤ h) (ht : Tp w1 g v) (hg : w.grownBy w1 (some g)) :
    Tp ((((w1.setCell ⟨h, 0, none⟩ a).setCell ⟨h, 1, none⟩ b).setCell ⟨h, 2, none⟩ c).setCell ⟨h, 3, none⟩ d) g v ∧ w.grownBy ((((w1.setCell ⟨h, 0, none⟩ a).setCell ⟨h, 1, none⟩ b).setCell ⟨h, 2, none⟩ c).setCell ⟨h, 3, none⟩ d) (some g) := by
  have hk : w1.grownBy ((((w1.setCell ⟨h, 0, none⟩ a).setCell ⟨h, 1, none⟩ b).setCell ⟨h, 2, none⟩ c).setCell ⟨h, 3, none⟩ d) (some h) := grownBy_set (grownBy_set (grownBy_set (grownBy_set (World.grownBy.refl _ _) _ _) _ _) _ _) _ _
  exact ⟨ht0.young ht hk (fun k e => by simp at e; omega), grownBy_own hg hk (fun k e => by simp at e; omega)⟩

set_option maxRecDepth 100000 in
set_option maxHeartbeats 2000000 in
theorem t_color (g : Nat) (v : Value) (w : World) (h : Tp w g v) :
    Calls Try.prog 21 #[.pointer (some ⟨g, 0, none⟩)] w (Colorss w g v) := by
  have h0 : Tp (w.alloc (.cells #[.int .u8 0, .int .u8 0, .int .u8 0, .int .u8 0] 29)) g v := tp_alloc h _
  have g0 : w.grownBy (w.alloc (.cells #[.int .u8 0, .int .u8 0, .int .u8 0, .int .u8 0] 29)) (some g) := World.grownBy_alloc _ _ _
  have k0 : Has (w.alloc (.cells #[.int .u8 0, .int .u8 0, .int .u8 0, .int .u8 0] 29)) w.heap.size #[.int .u8 0, .int .u8 0, .int .u8 0, .int .u8 0] 29 := has_new0
  have hne : w.heap.size ≠ g := by have := h.lt; omega
  have HT := Lib.hid h
  have H0 := Lib.hid h0
  have G0 := Lib.hid g0
  have K0 := Lib.hid k0
  have HN := Lib.hid hne
  clear h h0 g0 k0 hne
  go_enter Try.func21, Try.ntmps21
  go_wp2_with fail
  refine (t_next g v 256 _ (by omega) (by omega) H0.out).mono ?_
  rintro e w1 ⟨a, rfl, a0, a1, ht, hg⟩
  have H1 := Lib.hid ht
  have G1 := Lib.hid (grownBy_trans G0.out hg)
  have K1 := Lib.hid (has_grown K0.out hg HN.out)
  clear ht hg H0 G0 K0
  go_wp2_with fail
  refine (t_next g v 256 _ (by omega) (by omega) H1.out).mono ?_
  rintro e w2 ⟨b, rfl, b0, b1, ht, hg⟩
  have H2 := Lib.hid ht
  have G2 := Lib.hid (grownBy_trans G1.out hg)
  have K2 := Lib.hid (has_grown K1.out hg HN.out)
  clear ht hg H1 G1 K1
  go_wp2_with fail
  refine (t_next g v 256 _ (by omega) (by omega) H2.out).mono ?_
  rintro e w3 ⟨c, rfl, c0, c1, ht, hg⟩
  have H3 := Lib.hid ht
  have G3 := Lib.hid (grownBy_trans G2.out hg)
  have K3 := Lib.hid (has_grown K2.out hg HN.out)
  clear ht hg H2 G2 K2
  go_wp2_with fail
  refine (t_next g v 256 _ (by omega) (by omega) H3.out).mono ?_
  rintro e w4 ⟨d, rfl, d0, d1, ht, hg⟩
  have H4 := Lib.hid ht
  have G4 := Lib.hid (grownBy_trans G3.out hg)
  have K4 := Lib.hid (has_grown K3.out hg HN.out)
  clear ht hg H3 G3 K3
  obtain ⟨V, hV⟩ : ∃ V, w4.alloc (.cells #[.int .u8 255, .int .u8 255, .int .u8 128, .int .u8 d] 5) = V := ⟨_, rfl⟩
  obtain ⟨A, hA⟩ : ∃ A, w4.heap.size = A := ⟨_, rfl⟩
  have HA : Hid (A ≠ g) := Lib.hid (by have := HT.out.lt; have := G4.out.size; omega)
  have KV : Hid (Has V A #[.int .u8 255, .int .u8 255, .int .u8 128, .int .u8 d] 5) := Lib.hid (by rw [← hV]; exact has_new hA)
  have H5 : Hid (Tp V g v) := Lib.hid (by rw [← hV]; exact tp_alloc H4.out _)
  have G5 : Hid (w.grownBy V (some g)) := Lib.hid (by rw [← hV]; exact grownBy_own G4.out (World.grownBy_alloc w4 _ none) (fun k hk => by cases hk))
  have K5 : Hid (Has V w.heap.size #[.int .u8 0, .int .u8 0, .int .u8 0, .int .u8 0] 29) := Lib.hid (by rw [← hV]; exact K4.out.alloc _)
  have HV := Lib.hid hV
  clear hV H4 G4 K4
  go_wp2_with fail
  rw [HV.out]
  clear hA
  refine (t_next g v 4 _ (by omega) (by omega) H5.out).mono ?_
  rintro e w6 ⟨x, rfl, x0, x1, ht, hg⟩
  have kA := has_grown KV.out hg HA.out
  have kB := has_grown K5.out hg HN.out
  obtain ⟨n, rfl⟩ := Int.eq_ofNat_of_zero_le x0
  obtain ⟨q, hq, q0, q1⟩ : ∃ q : Int, w6.cell? ⟨A, n, none⟩ = some (.int .u8 q) ∧ 0 ≤ q ∧ q ≤ 255 := by
    rcases (show n = 0 ∨ n = 1 ∨ n = 2 ∨ n = 3 by omega) with rfl | rfl | rfl | rfl
    · exact ⟨255, kA.cell 0 _ rfl, by omega, by omega⟩
    · exact ⟨255, kA.cell 1 _ rfl, by omega, by omega⟩
    · exact ⟨128, kA.cell 2 _ rfl, by omega, by omega⟩
    · exact ⟨d, kA.cell 3 _ rfl, by omega, by omega⟩
  have R := Lib.hid (four_cells (h := w.heap.size) (.int .u8 a) (.int .u8 b) (.int .u8 c) (.int .u8 q) HT.out (Nat.le_refl _) ht (grownBy_trans G5.out hg))
  have k0 := kB.cell 0 _ rfl
  have k1 := kB.cell 1 _ rfl
  have k2 := kB.cell 2 _ rfl
  have k3 := kB.cell 3 _ rfl
  have fz := has_fro kB
  have o1 : (n : Int) ≤ 3 := by omega
  have o2 : n < 4 := by omega
  clear ht hg H5 G5 K5 KV kA kB HT x0 x1
  go_wp2
  refine bodyPost_ret (v := .agg (cCells ⟨a, b, c, q⟩)) (by simp [results, Try.results21, go_sem, k0, k1, k2, k3]) rfl ?_
  have ok : (⟨a, b, c, q⟩ : Cr).Ok := ⟨a0, by simp only; omega, b0, by simp only; omega, c0, by simp only; omega, q0, q1⟩
  exact ⟨⟨a, b, c, q⟩, rfl, ok, R.out.1, R.out.2⟩

/-- A paint that may be. -/
def Paints (w : World) (g : Nat) (v : Value) (e : Ending) (w' : World) : Prop := ∃ (k : Int) (a b : Cr) (p q : Pt) (r : Int), e = .returned (.agg (paC k a b p q r)) ∧ (0 ≤ k ∧ k ≤ 2) ∧ a.Ok ∧ b.Ok ∧
  (-262144 ≤ p.x ∧ p.x ≤ 851967 ∧ -262144 ≤ p.y ∧ p.y ≤ 851967 ∧ -262144 ≤ q.x ∧ q.x ≤ 851967 ∧ -262144 ≤ q.y ∧ q.y ≤ 851967 ∧ 0 ≤ r ∧ r ≤ 851967) ∧ Tp w' g v ∧ w.grownBy w' (some g)

set_option maxRecDepth 100000 in
set_option maxHeartbeats 2000000 in
theorem t_paint (g : Nat) (v : Value) (w : World) (h : Tp w g v) :
    Calls Try.prog 20 #[.pointer (some ⟨g, 0, none⟩)] w (Paints w g v) := by
  obtain ⟨B, hB⟩ : ∃ B, w.heap.size = B := ⟨_, rfl⟩
  obtain ⟨W, hW⟩ : ∃ W, w.alloc (.cells (paC 0 ⟨0, 0, 0, 0⟩ ⟨0, 0, 0, 0⟩ ⟨0, 0⟩ ⟨0, 0⟩ 0) 33) = W := ⟨_, rfl⟩
  have T0 : Hid (Tp W g v) := Lib.hid (by rw [← hW]; exact tp_alloc h _)
  have G0 : Hid (w.grownBy W (some g)) := Lib.hid (by rw [← hW]; exact World.grownBy_alloc _ _ _)
  have K0 : Hid (Has W B (paC 0 ⟨0, 0, 0, 0⟩ ⟨0, 0, 0, 0⟩ ⟨0, 0⟩ ⟨0, 0⟩ 0) 33) := Lib.hid (by rw [← hW]; exact has_new hB)
  have HW := Lib.hid hW
  have HNE : Hid (B ≠ g) := Lib.hid (by have := h.lt; omega)
  have HT := Lib.hid h
  clear hW h
  go_enter Try.func20, Try.ntmps20
  go_wp2_with fail
  rw [HW.out]
  refine (t_next g v 3 _ (by omega) (by omega) T0.out).mono ?_
  rintro e w1 ⟨k, rfl, k0, k1, ht, hg⟩
  have T1 := Lib.hid ht
  have G1 := Lib.hid (grownBy_trans G0.out hg)
  have K1 := Lib.hid (has_grown K0.out hg HNE.out)
  clear ht hg T0 G0 K0
  go_wp2_with fail
  refine (t_color g v _ T1.out).mono ?_
  rintro e w2 ⟨a, rfl, ao, ht, hg⟩
  have T2 := Lib.hid ht
  have G2 := Lib.hid (grownBy_trans G1.out hg)
  have K2 := Lib.hid (has_grown K1.out hg HNE.out)
  have AO := Lib.hid ao
  clear ht hg T1 G1 K1 ao
  go_wp2_with fail
  refine (t_color g v _ T2.out).mono ?_
  rintro e w3 ⟨b, rfl, bo, ht, hg⟩
  have T3 := Lib.hid ht
  have G3 := Lib.hid (grownBy_trans G2.out hg)
  have K3 := Lib.hid (has_grown K2.out hg HNE.out)
  have BO := Lib.hid bo
  clear ht hg T2 G2 K2 bo
  obtain ⟨P, hP⟩ : ∃ P, w3.heap.size = P := ⟨_, rfl⟩
  obtain ⟨V, hV⟩ : ∃ V, w3.alloc (.cells (paC k a b ⟨0, 0⟩ ⟨0, 0⟩ 0) 33) = V := ⟨_, rfl⟩
  have T4 : Hid (Tp V g v) := Lib.hid (by rw [← hV]; exact tp_alloc T3.out _)
  have G4 : Hid (w.grownBy V (some g)) := Lib.hid (by rw [← hV]; exact grownBy_own G3.out (World.grownBy_alloc w3 _ none) (fun k hk => by cases hk))
  have K4 : Hid (Has V B (paC 0 ⟨0, 0, 0, 0⟩ ⟨0, 0, 0, 0⟩ ⟨0, 0⟩ ⟨0, 0⟩ 0) 33) := Lib.hid (by rw [← hV]; exact K3.out.alloc _)
  have P4 : Hid (Has V P (paC k a b ⟨0, 0⟩ ⟨0, 0⟩ 0) 33) := Lib.hid (by rw [← hV]; exact has_new hP)
  have HV := Lib.hid hV
  have NP : Hid (P ≠ g ∧ P ≠ B ∧ w.heap.size ≤ P) := Lib.hid (by have := HT.out.lt; have := K3.out.lt; have := G3.out.size; omega)
  clear hV T3 G3 K3
  go_upto_region 2 with fail
  rw [HV.out]
  clear hP
  have p0 := P4.out.cell 0 _ rfl
  go_upto_if 13 with fail
  go_cut [13] (fun _ wx => ∃ (p q : Pt) (r : Int), Has wx P (paC k a b p q r) 33 ∧ Has wx B (paC 0 ⟨0, 0, 0, 0⟩ ⟨0, 0, 0, 0⟩ ⟨0, 0⟩ ⟨0, 0⟩ 0) 33 ∧ Tp wx g v ∧ w.grownBy wx (some g) ∧
    (-262144 ≤ p.x ∧ p.x ≤ 851967 ∧ -262144 ≤ p.y ∧ p.y ≤ 851967 ∧ -262144 ≤ q.x ∧ q.x ≤ 851967 ∧ -262144 ≤ q.y ∧ q.y ≤ 851967 ∧ 0 ≤ r ∧ r ≤ 851967))
  case first =>
    by_cases hk : k = 0
    · subst hk
      go_wp2_with fail
      go_meet
      case rel => exact ⟨⟨0, 0⟩, ⟨0, 0⟩, 0, P4.out, K4.out, T4.out, G4.out, by simp⟩
    · have hk' : (k == 0) = false := by simp [hk]
      clear p0
      go_wp2_with fail
      refine (t_pointG g v _ _ _ (by omega) (by omega) (by omega) T4.out).mono ?_
      rintro e w5 ⟨px, py, rfl, pb, ht, hg⟩
      have T5 := Lib.hid ht
      have G5 := Lib.hid (grownBy_trans G4.out hg)
      have K5 := Lib.hid (has_grown K4.out hg HNE.out)
      have P5 := Lib.hid (has_grown P4.out hg NP.out.1)
      clear ht hg T4 G4 K4 P4
      go_wp2_with fail
      refine (t_pointG g v _ _ _ (by omega) (by omega) (by omega) T5.out).mono ?_
      rintro e w6 ⟨qx, qy, rfl, qb, ht, hg⟩
      have T6 := Lib.hid ht
      have G6 := Lib.hid (grownBy_trans G5.out hg)
      have K6 := Lib.hid (has_grown K5.out hg HNE.out)
      have P6 := Lib.hid (has_grown P5.out hg NP.out.1)
      clear ht hg T5 G5 K5 P5
      go_wp2_with fail
      refine (t_number g v _ _ _ (by omega) (by omega) (by omega) T6.out).mono ?_
      rintro e w7 ⟨r, rfl, r0, r1, ht, hg⟩
      have P7 := has_grown P6.out hg NP.out.1
      have K7 := has_grown K6.out hg HNE.out
      have G7 := grownBy_trans G6.out hg
      have hs : w7.grownBy (((((w7.setCell ⟨P, 9, none⟩ (.int .i64 px)).setCell ⟨P, 10, none⟩ (.int .i64 py)).setCell ⟨P, 11, none⟩ (.int .i64 qx)).setCell ⟨P, 12, none⟩ (.int .i64 qy)).setCell ⟨P, 13, none⟩ (.int .i64 r)) (some P) := grownBy_set (grownBy_set (grownBy_set (grownBy_set (grownBy_set (World.grownBy.refl _ _) _ _) _ _) _ _) _ _) _ _
      have R := Lib.hid (show Has (((((w7.setCell ⟨P, 9, none⟩ (.int .i64 px)).setCell ⟨P, 10, none⟩ (.int .i64 py)).setCell ⟨P, 11, none⟩ (.int .i64 qx)).setCell ⟨P, 12, none⟩ (.int .i64 qy)).setCell ⟨P, 13, none⟩ (.int .i64 r)) P (paC k a b ⟨px, py⟩ ⟨qx, qy⟩ r) 33 from has_set (has_set (has_set (has_set (has_set P7 9 _) 10 _) 11 _) 12 _) 13 _)
      have RB := Lib.hid (has_grown K7 hs (Ne.symm NP.out.2.1))
      have RT := Lib.hid (HT.out.young ht hs (fun k hk => by simp at hk; have := NP.out.2.2; omega))
      have RG := Lib.hid (grownBy_own G7 hs (fun k hk => by simp at hk; have := NP.out.2.2; omega))
      have c9 := P7.cell 9 _ rfl
      have c10 := P7.cell 10 _ rfl
      have c11 := P7.cell 11 _ rfl
      have c12 := P7.cell 12 _ rfl
      have c13 := P7.cell 13 _ rfl
      have fz := has_fro P7
      have BD : Hid (-262144 ≤ px ∧ px ≤ 851967 ∧ -262144 ≤ py ∧ py ≤ 851967 ∧ -262144 ≤ qx ∧ qx ≤ 851967 ∧ -262144 ≤ qy ∧ qy ≤ 851967 ∧ 0 ≤ r ∧ r ≤ 851967) := Lib.hid (by omega)
      clear ht hg T6 G6 K6 P6 P7 K7 G7 hs pb qb r0 r1
      go_wp2_with fail
      go_meet
      case rel => exact ⟨⟨px, py⟩, ⟨qx, qy⟩, r, R.out, RB.out, RT.out, RG.out, BD.out⟩
  case rest =>
    obtain ⟨p, q, r, hp, hbk, htp, hgr, bd⟩ := hcut
    have PX := has_setRow (cs := paC k a b p q r) hbk
    have TX : Tp (wc.setRow B (paC k a b p q r)) g v := HT.out.young htp (row := some B) ⟨rfl, rfl, rfl, by simp [World.setRow], fun j _ hj => setRow_other wc B j _ (fun e => hj (by rw [e]))⟩ (fun j hj => by simp at hj; omega)
    have GX : w.grownBy (wc.setRow B (paC k a b p q r)) (some g) := grownBy_own hgr (row := some B) ⟨rfl, rfl, rfl, by simp [World.setRow], fun j _ hj => setRow_other wc B j _ (fun e => hj (by rw [e]))⟩ (fun j hj => by simp at hj; omega)
    have R := Lib.hid (show Paints w g v (.returned (.agg (paC k a b p q r))) (wc.setRow B (paC k a b p q r)) from ⟨k, a, b, p, q, r, rfl, ⟨k0, by omega⟩, AO.out, BO.out, bd, TX, GX⟩)
    obtain ⟨X, hX⟩ : ∃ X, wc.setRow B (paC k a b p q r) = X := ⟨_, rfl⟩
    rw [hX] at PX R
    clear TX GX htp hgr bd
    go_upto_region 4 with fail
    apply wp_region_lit
    refine wpList_load_row rfl 33 _ rfl P rfl 33 _ (0, 0) _ hp Try.underlying33 rfl (by kernel_rfl) ?_
    refine wpList_store_row rfl 33 _ _ rfl B (paC k a b p q r) rfl rfl 33 _ hbk (by kernel_rfl) rfl (by kernel_rfl) ?_
    apply wpList_nil
    rw [hX]
    clear hX
    go_wp2_with fail
    refine bodyPost_ret (v := .agg (paC k a b p q r)) (results_cell_row rfl _ _ B 33 _ (0, 0) _ rfl PX Try.underlying33 rfl (by kernel_rfl)) rfl ?_
    exact R.out

end Go.Proofs.Ytglbfpjjnboeaaa
