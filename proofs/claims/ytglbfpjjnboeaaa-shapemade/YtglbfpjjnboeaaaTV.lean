/- Contract of mutoscopekeep's Tape.Shape: for every tape a shape as 'Made3' says, its lists its own; the tape alone turns. -/
import Derived.Test.YtglbfpjjnboeaaaTZ
namespace Go.Proofs.Ytglbfpjjnboeaaa
open Go Go.RowKit
open M

theorem kg_right {lo hi A : Int} {qs : List Ky} (h : KeptG lo hi qs A) (l : qs.length ≤ 3) : right qs = true := by
  unfold right
  rw [h.kept.right]
  simp
  omega
def Shapes3 (w : World) (g : Nat) (v : Value) (e : Ending) (w' : World) : Prop := ∃ s : Shp, e = .returned (.agg (shC s)) ∧ Made3 s ∧ ShIn w' s ∧ Tp w' g v ∧ w.grownBy w' (some g)

set_option maxRecDepth 100000 in
set_option maxHeartbeats 4000000 in
theorem t_shape (g : Nat) (v : Value) (w : World) (h : Tp w g v) :
    Calls Try.prog 6 #[.pointer (some ⟨g, 0, none⟩)] w (Shapes3 w g v) := by
  obtain ⟨R, hR⟩ : ∃ B, w.heap.size = B := ⟨_, rfl⟩
  obtain ⟨W, hW⟩ : ∃ W, w.alloc (.cells (shC (shF 0 0)) 37) = W := ⟨_, rfl⟩
  obtain ⟨z, hz⟩ : ∃ z, shC (shF 0 0) = z := ⟨_, rfl⟩
  have T0 : Hid (Tp W g v) := Lib.hid (by rw [← hW]; exact tp_alloc h _)
  have G0 : Hid (w.grownBy W (some g)) := Lib.hid (by rw [← hW]; exact World.grownBy_alloc _ _ _)
  have K0 : Hid (Has W R z 37) := Lib.hid (by rw [← hW, ← hz]; exact has_new hR)
  have HW := Lib.hid hW
  have HZ := Lib.hid hz
  have HNE : Hid (R ≠ g) := Lib.hid (by have := h.lt; omega)
  have HR := Lib.hid hR
  have HT := Lib.hid h
  clear hW h hz
  go_enter Try.func6, Try.ntmps6
  go_upto_region 1 with fail
  rw [HW.out]
  clear hR
  apply wp_region_lit
  refine wpList_plain rfl fun K hK => ?_
  have HK := Lib.hid hK
  clear hK
  go_wp2_with fail
  refine HK.out _ _ ?_
  clear HK
  refine wpList_plain rfl fun K hK => ?_
  have HK := Lib.hid hK
  clear hK
  go_wp2_with fail
  refine (t_next g v 4 _ (by omega) (by omega) T0.out).mono ?_
  rintro e w1 ⟨f, rfl, f0, f1, ht, hg⟩
  have T1 := Lib.hid ht
  have G1 := Lib.hid (grownBy_trans G0.out hg)
  have K1 := Lib.hid (has_grown K0.out hg HNE.out)
  clear ht hg T0 G0 K0
  refine HK.out _ _ ?_
  clear HK
  refine wpList_plain rfl fun K hK => ?_
  have HK := Lib.hid hK
  clear hK
  go_wp2_with fail
  refine HK.out _ _ ?_
  clear HK
  obtain ⟨A, hA⟩ : ∃ A, w1.heap.size = A := ⟨_, rfl⟩
  refine wpList_plain rfl fun K hK => ?_
  have HK := Lib.hid hK
  clear hK
  go_wp2_with fail
  refine HK.out _ _ ?_
  clear HK
  refine wpList_store_row rfl 37 _ _ rfl A (shC (shF f 0)) rfl rfl 37 _ (has_new hA) (by kernel_rfl) rfl (by kernel_rfl) ?_
  apply wpList_nil
  have X0 : Has (w1.alloc (.cells (shC (shF 0 0)) 37)) A _ _ := has_new hA
  have S0 : TS2 w g v R A z (A + 1) (shF f 0) ((w1.alloc (.cells (shC (shF 0 0)) 37)).setRow A (shC (shF f 0))) := by
    have a0 := HT.out.lt
    have a1 := G1.out.size
    have a2 := K1.out.lt
    have a3 := HR.out
    have hs : (w1.alloc (.cells (shC (shF 0 0)) 37)).grownBy ((w1.alloc (.cells (shC (shF 0 0)) 37)).setRow A (shC (shF f 0))) (some A) := ⟨rfl, rfl, rfl, by simp [World.setRow], fun j _ hj => setRow_other _ A j _ (fun e => hj (by rw [e]))⟩
    exact ⟨HT.out.young (tp_alloc T1.out _) hs (fun k hk => by simp at hk; omega), grownBy_own (grownBy_own G1.out (World.grownBy_alloc w1 _ none) (fun k hk => by cases hk)) hs (fun k hk => by simp at hk; omega), has_setRow X0, has_setRow_ne (K1.out.alloc _) (by omega), ⟨by omega, by omega, by omega⟩, ⟨by omega, by simp [World.setRow]; omega⟩, shF_lsts _ _ _ _ _⟩
  obtain ⟨X, hX⟩ : ∃ X, (w1.alloc (.cells (shC (shF 0 0)) 37)).setRow A (shC (shF f 0)) = X := ⟨_, rfl⟩
  rw [hX] at S0
  try rw [hX]
  clear hX X0 hA T1 G1 K1
  have S := Lib.hid S0
  clear S0
  have c0 := S.out.has.cell 0 _ rfl
  go_upto_if 15 with fail
  go_cut [15] (fun _ wx => ∃ n : Int, OkN (shF f n) ∧ TS2 w g v R A z (A + 1) (shF f n) wx)
  case first =>
    by_cases hf : f = 2
    · subst hf
      clear c0
      go_wp2_with fail
      refine (t_next g v 5 _ (by omega) (by omega) S.out.tape).mono ?_
      rintro e w2 ⟨n, rfl, n0, n1, ht, hg⟩
      have S1 := S.out.call ht hg
      have c1 := S1.has.cell 1 _ rfl
      have fz := has_fro S1.has
      have S2 := Lib.hid (S1.put (s' := shF 2 (2 + n)) HT.out 1 (.int .i64 (2 + n)) rfl (shF_lsts _ _ _ _ _))
      clear S1 ht hg S
      go_wp2_with fail
      go_meet
      case rel => exact ⟨2 + n, ⟨f0, f1, Or.inl ⟨rfl, (by omega : 2 ≤ 2 + n), (by omega : 2 + n ≤ 6)⟩⟩, S2.out⟩
    · have hf' : (f == 2) = false := by simp [hf]
      have ON : Hid (OkN (shF f 0)) := Lib.hid ⟨f0, (by omega : f ≤ 3), Or.inr ⟨hf, rfl⟩⟩
      go_wp2_with fail
      go_meet
      case rel => exact ⟨0, ON.out, S.out⟩
  case rest =>
    obtain ⟨n, on, ts⟩ := hcut
    have N := Lib.hid on
    have S1 := Lib.hid ts
    clear on ts S c0
    have c0 := S1.out.has.cell 0 _ rfl
    go_upto_if 22 with fail
    go_cut [22] (fun _ wx => ∃ M, MT true w g v R A z M wx)
    case first =>
      by_cases hf : f = 3
      · subst hf
        clear c0 f0 f1
        go_wp2_with fail
        refine (t_next g v 3 _ (by omega) (by omega) S1.out.tape).mono ?_
        rintro e w2 ⟨x, rfl, x0, x1, ht, hg⟩
        have S2 := Lib.hid (S1.out.call ht hg)
        obtain ⟨k, hk, k1, k3⟩ : ∃ k : Nat, 1 + x = (k : Int) ∧ 1 ≤ k ∧ k ≤ 3 := ⟨(1 + x).toNat, by omega, by omega, by omega⟩
        have KB : Hid (1 ≤ k ∧ k ≤ 3) := Lib.hid ⟨k1, k3⟩
        clear ht hg S1 x0 x1 k1
        go_wp2_with fail
        clear hk
        refine (t_next g v 2 _ (by omega) (by omega) S2.out.tape).mono ?_
        rintro e w3 ⟨y, rfl, y0, y1, ht, hg⟩
        have S3 := Lib.hid (S2.out.call ht hg)
        obtain ⟨c, hc⟩ : ∃ c : Bool, (y == 0) = c := ⟨_, rfl⟩
        clear ht hg S2 y0 y1 k3
        go_wp2_with fail
        clear hc
        refine (t_next g v 4 _ (by omega) (by omega) S3.out.tape).mono ?_
        rintro e w4 ⟨A0, rfl, a0, a1, ht, hg⟩
        have S4 := Lib.hid (S3.out.call ht hg)
        clear ht hg S3
        go_wp2_with fail
        refine (t_next g v 3 _ (by omega) (by omega) S4.out.tape).mono ?_
        rintro e w5 ⟨y, rfl, y0, y1, ht, hg⟩
        obtain ⟨m0, hm0, m1, m3⟩ : ∃ m : Nat, 1 + y = (m : Int) ∧ 1 ≤ m ∧ m ≤ 3 := ⟨(1 + y).toNat, by omega, by omega, by omega⟩
        have MB : Hid (1 ≤ m0 ∧ m0 ≤ 3) := Lib.hid ⟨m1, m3⟩
        have D0 : Dr w g v R A z c k A0 (shF 3 n) [] nilF w5 := ⟨S4.out.call ht hg, World.ownsRow_nil _ _ _ _, fun i hi => by simp at hi, fun i hi => by simp at hi, Mk2.nil, fun i hi => by simp at hi, fun i hi => by simp at hi, a0, by simp; omega⟩
        have HD0 := Lib.hid D0
        clear D0 ht hg S4 y0 y1 m1
        go_wp2
        clear hm0 m3
        go_loopw [6, 7, 8] (fun at' kk _ wr => ∃ (m : Nat) (At : Int) (ks : List Pk) (lw : Value), kk = .int .i64 m ∧ at' = .int .i64 At ∧ m + ks.length ≤ 3 ∧ 1 ≤ m + ks.length ∧ Dr w g v R A z c k At (shF 3 n) ks lw wr) (fun _ kk _ _ => (intOf kk).toNat)
        case atStart => exact ⟨m0, A0, [], _, rfl, rfl, by have := MB.out; simp; omega, by have := MB.out; simp; omega, HD0.out⟩
        case round =>
          clear HD0 a0 a1
          obtain ⟨m, At, ks, lw, rfl, rfl, hml, hm1, hD⟩ := hrel
          have ML : Hid (m + ks.length ≤ 3 ∧ 1 ≤ m + ks.length) := Lib.hid ⟨hml, hm1⟩
          have D := Lib.hid hD
          have A1 := hD.a0
          have A2 : At ≤ 21 := by have := hD.a1; omega
          obtain ⟨aol, capl, rfl⟩ := hD.len
          clear hml hm1 hD
          rcases (show m = 0 ∨ ∃ j : Nat, m = j + 1 from by cases m with | zero => exact Or.inl rfl | succ j => exact Or.inr ⟨j, rfl⟩) with rfl | ⟨m, rfl⟩
          rotate_left
          · have LF : Hid (ks.length ≤ 100) := Lib.hid (by have := ML.out; omega)
            have L2 : Hid (ks.length ≤ 2) := Lib.hid (by have := ML.out; omega)
            have m3 : (m : Int) ≤ 3 := by have := ML.out; omega
            go_wp2_with fail
            refine (t_path g v k c _ (by have := KB.out; omega) D.out.t.tape).mono ?_
            rintro e w6 ⟨vp, ps, rfl, hl, sm, ho, ht, hg⟩
            have D6 := Lib.hid (D.out.call ht hg)
            have NE6 : Hid (∀ j, vp.ownBlock = some j → Value.ownBlock (.slice aol ks.length capl) ≠ some j) := Lib.hid (fun j hj e => by have := (ho.base j hj).1; have := (D.out.own.base j e).2; omega)
            have P6 := Lib.hid (ho.lower (B' := A + 1) (by have := D.out.t.am; omega))
            have SM := Lib.hid sm
            have HL := Lib.hid hl
            clear ht hg ho sm hl D
            obtain ⟨aop, capp, rfl⟩ := P6.out.len
            obtain ⟨XX, hXX⟩ : ∃ X, w6.alloc (.cells (pkCells ⟨At, c, .slice aop ps.length capp, ps, 0, 0, 0, 0, 0⟩) 57) = X := ⟨_, rfl⟩
            obtain ⟨gx, hgx⟩ : ∃ g, w6.heap.size = g := ⟨_, rfl⟩
            have DX : Hid (Dr w g v R A z c k At (shF 3 n) ks (.slice aol ks.length capl) XX) := Lib.hid (by rw [← hXX]; exact D6.out.alloc _)
            have KX : Hid (Has XX gx (pkCells ⟨At, c, .slice aop ps.length capp, ps, 0, 0, 0, 0, 0⟩) 57) := Lib.hid (by rw [← hXX]; exact has_new hgx)
            have PX : Hid (Pown XX (A + 1) (.slice aop ps.length capp) ps) := Lib.hid (by rw [← hXX]; exact P6.out.alloc _)
            have HXX := Lib.hid hXX
            have HGX := Lib.hid hgx
            have NG : Hid (gx ≠ g ∧ g < A + 1) := Lib.hid (by have := D6.out.t.tape.lt; have := D6.out.t.ga; omega)
            clear hXX
            go_upto_region 11 with fail
            rw [HXX.out]
            clear hgx HXX
            go_wp2_with fail
            refine (t_how g v _ DX.out.t.tape).mono ?_
            rintro e w7 ⟨kh, ea, eb, ec, ed, rfl, ok, ht, hg⟩
            have D7 := DX.out.call ht hg
            have K7 := has_grown KX.out hg NG.out.1
            have P7 := PX.out.young hg NG.out.2
            have hs : w7.grownBy (((((w7.setCell ⟨gx, 3, none⟩ (.int .i64 kh)).setCell ⟨gx, 4, none⟩ (.int .i64 ea)).setCell ⟨gx, 5, none⟩ (.int .i64 eb)).setCell ⟨gx, 6, none⟩ (.int .i64 ec)).setCell ⟨gx, 7, none⟩ (.int .i64 ed)) (some gx) := grownBy_set (grownBy_set (grownBy_set (grownBy_set (grownBy_set (World.grownBy.refl _ _) _ _) _ _) _ _) _ _) _ _
            have DY := Dr.set HT.out D6.out D7 (Nat.le_of_eq HGX.out) hs
            have KY : Has (((((w7.setCell ⟨gx, 3, none⟩ (.int .i64 kh)).setCell ⟨gx, 4, none⟩ (.int .i64 ea)).setCell ⟨gx, 5, none⟩ (.int .i64 eb)).setCell ⟨gx, 6, none⟩ (.int .i64 ec)).setCell ⟨gx, 7, none⟩ (.int .i64 ed)) gx (pkCells ⟨At, c, .slice aop ps.length capp, ps, kh, ea, eb, ec, ed⟩) 57 := has_set (has_set (has_set (has_set (has_set K7 3 _) 4 _) 5 _) 6 _) 7 _
            have PY := P7.kept hs (fun j hj e => by simp at hj; have := (P6.out.base j e).2; have := HGX.out; omega)
            obtain ⟨YY, hYY⟩ : ∃ Y, (((((w7.setCell ⟨gx, 3, none⟩ (.int .i64 kh)).setCell ⟨gx, 4, none⟩ (.int .i64 ea)).setCell ⟨gx, 5, none⟩ (.int .i64 eb)).setCell ⟨gx, 6, none⟩ (.int .i64 ec)).setCell ⟨gx, 7, none⟩ (.int .i64 ed)) = Y := ⟨_, rfl⟩
            rw [hYY] at DY KY PY
            have HYY := Lib.hid hYY
            have HDY := Lib.hid DY
            have HKY := Lib.hid KY
            have HPY := Lib.hid PY
            have OK := Lib.hid ok
            have x3 := K7.cell 3 _ rfl
            have x4 := K7.cell 4 _ rfl
            have x5 := K7.cell 5 _ rfl
            have x6 := K7.cell 6 _ rfl
            have x7 := K7.cell 7 _ rfl
            have fz := has_fro K7
            clear hYY DY KY PY ok ht hg D7 K7 P7 hs DX KX PX D6 P6 HGX
            go_upto_region 12 with fail
            rw [HYY.out]
            clear x3 x4 x5 x6 x7 fz HYY
            have x0 := HKY.out.cell 0 _ rfl
            have x1 := HKY.out.cell 1 _ rfl
            have x2 := HKY.out.cell 2 _ rfl
            have x3 := HKY.out.cell 3 _ rfl
            have x4 := HKY.out.cell 4 _ rfl
            have x5 := HKY.out.cell 5 _ rfl
            have x6 := HKY.out.cell 6 _ rfl
            have x7 := HKY.out.cell 7 _ rfl
            have c4 := HDY.out.t.has.cell 4 (.slice aol ks.length capl) rfl
            have SZ : Hid (A + 1 ≤ (YY.alloc (.cells (pkCells ⟨At, c, (.slice aop ps.length capp), ps, kh, ea, eb, ec, ed⟩) 57)).heap.size) := Lib.hid (by have := HDY.out.t.am; simp; omega)
            go_wp2_with (at_builtin; refine wpList_append_pk rfl _ _ rfl LF.out rfl YY.heap.size rfl ⟨At, c, (.slice aop ps.length capp), ps, kh, ea, eb, ec, ed⟩ ⟨_, _, _, rfl⟩ has_new0 (HDY.out.alloc _).own SZ.out ?_)
            intro g' cap' w8 ho8 hg8 hat8
            have M8 := Lib.hid (fun (At' : Int) (h1 : At + 1 ≤ At') (h2 : At' ≤ At + 6) => Dr.snoc (At' := At') HT.out (HDY.out.alloc _) L2.out rfl OK.out SM.out KB.out.1 (by have := KB.out; omega) ⟨rfl, HL.out⟩ (HPY.out.alloc _) NE6.out h1 h2 ho8 hg8 (by simpa using hat8))
            have h8 := ((HDY.out.alloc (.cells (pkCells ⟨At, c, (.slice aop ps.length capp), ps, kh, ea, eb, ec, ed⟩) 57)).t.step HT.out hg8 (fun j hj => ((HDY.out.alloc (.cells (pkCells ⟨At, c, (.slice aop ps.length capp), ps, kh, ea, eb, ec, ed⟩) 57)).own.base j hj).1)).has
            have c8 := h8.cell 4 (.slice aol ks.length capl) rfl
            have fz := has_fro h8
            obtain ⟨ZZ, hZZ⟩ : ∃ Z, w8.setCell ⟨A, 4, none⟩ (.slice (some ⟨g', 0, none⟩) (ks.length + 1) cap') = Z := ⟨_, rfl⟩
            rw [hZZ] at M8
            have HZZ := Lib.hid hZZ
            clear ho8 hg8 hat8 h8 hZZ x0 x1 x2 x3 x4 x5 x6 x7 c4 HKY HPY HDY SZ
            go_upto_region 13 with fail
            rw [HZZ.out]
            clear c8 fz HZZ
            have T8 := Lib.hid (M8.out (At + 1) (by omega) (by omega)).t.tape
            go_wp2_with fail
            refine (t_next g v 6 _ (by omega) (by omega) T8.out).mono ?_
            rintro e w9 ⟨z', rfl, z0, z1, ht, hg⟩
            have M9 := Lib.hid ((M8.out (At + 1 + z') (by omega) (by omega)).call ht hg)
            clear ht hg T8 M8
            go_wp2
            go_roundw
            case rel => exact ⟨m, At + 1 + z', _, _, by go_num, rfl, by have := ML.out; simp; omega, by have := ML.out; simp; omega, M9.out⟩
            case measure => simp [intOf]
          · have NP : Hid (0 < ks.length) := Lib.hid (by have := ML.out; omega)
            go_wp2_with fail
            go_meet
            case rel => exact ⟨_, _, shF_drawn N.out D.out.made NP.out, fun _ => ⟨rfl, rfl⟩, D.out.done⟩
      · have hf' : (f == 3) = false := by simp [hf]
        have HF := Lib.hid hf
        obtain ⟨M, hM⟩ : ∃ M, A + 1 = M := ⟨_, rfl⟩
        rw [hM] at S1
        clear c0 hM hf
        go_wp2_with fail
        obtain ⟨B, hB⟩ : ∃ B, wc.heap.size = B := ⟨_, rfl⟩
        have MB : Hid (M ≤ B) := Lib.hid (by have := S1.out.am; omega)
        have GB : Hid (g < B ∧ A < B) := Lib.hid (by have := S1.out.ga; have := S1.out.am; omega)
        have HB := Lib.hid hB
        clear hB
        refine (t_keysG g v 1 14 _ (by omega) (by omega) (by omega) S1.out.tape).mono ?_
        rintro e wa ⟨l, qs, At, rfl, kq, l3, ho, ht, hg⟩
        rw [HB.out] at ho
        have Sa := Lib.hid (S1.out.call ht hg)
        have Oa := Lib.hid ho
        have KQ := Lib.hid kq
        have L3 := Lib.hid l3
        have ZA : Hid (B ≤ wa.heap.size) := Lib.hid (by have := hg.size; have := HB.out; omega)
        obtain ⟨aol, capl, rfl⟩ := ho.len
        clear ht hg ho kq l3 S1
        go_wp2_with fail
        refine (t_number g v 1 14 _ (by omega) (by omega) (by omega) Sa.out.tape).mono ?_
        rintro e wb ⟨x, rfl, x0, x1, ht, hg⟩
        have Sb := Lib.hid ((Sa.out.call ht hg).alloc (.cells (kCells ⟨60, x, 0, 0, 0, 0, 0⟩) 63))
        have Ob := Lib.hid (Own.alloc (Oa.out.kept hg (fun k hk e => by simp at hk; have := (World.ownsRow.lt Oa.out k e).1; have := GB.out; omega)) (.cells (kCells ⟨60, x, 0, 0, 0, 0, 0⟩) 63))
        have Zb : Hid (B ≤ (wb.alloc (.cells (kCells ⟨60, x, 0, 0, 0, 0, 0⟩) 63)).heap.size) := Lib.hid (by have := ZA.out; have := hg.size; simp; omega)
        have XB : Hid (1 * 65536 ≤ x ∧ x ≤ 14 * 65536 + 65535) := Lib.hid ⟨by omega, by omega⟩
        have L9 : Hid (qs.length ≤ 900) := Lib.hid (by have := L3.out; omega)
        clear ht hg x0 x1 Sa Oa
        go_wp2_with (at_builtin; refine wpList_append_ky rfl _ _ rfl rfl wb.heap.size rfl ⟨60, x, 0, 0, 0, 0, 0⟩ has_new0 Ob.out L9.out Zb.out ?_)
        intro l' wd hown' hg'

        have tk := Sb.out.keys HT.out Ob.out MB.out L3.out hown' hg'
        have KW := Lib.hid (K60.of KQ.out L3.out (by omega) (by omega) XB.out.1 XB.out.2)
        obtain ⟨aoW, capW, rfl⟩ := owns_len hown'
        have SW := TS2.setW HT.out Sb.out Ob.out MB.out L3.out hown' hg'
        have cj := tk.1.has.cell 2 _ rfl
        have fz := has_fro tk.1.has
        clear tk hown' hg' Sb Ob XB L9 Zb MB GB HB L3 KQ ZA
        obtain ⟨kW, hk⟩ : ∃ y, qs ++ [Ky.mk 60 x 0 0 0 0 0] = y := ⟨_, rfl⟩
        rw [hk] at SW KW
        clear hk
        obtain ⟨M2, hM2⟩ : ∃ M, wd.heap.size = M := ⟨_, rfl⟩
        rw [hM2] at SW
        obtain ⟨XW, hX⟩ : ∃ X, wd.setCell ⟨A, 2, none⟩ (.slice aoW (qs.length + 1) capW) = X := ⟨_, rfl⟩
        rw [hX] at SW
        have S2 := Lib.hid SW
        have HX := Lib.hid hX
        clear SW hX hM2
        go_upto_region 15 with fail
        rw [HX.out]
        clear HX cj fz
        go_wp2_with fail
        obtain ⟨B, hB⟩ : ∃ B, XW.heap.size = B := ⟨_, rfl⟩
        have MB : Hid (M2 ≤ B) := Lib.hid (by have := S2.out.am; omega)
        have GB : Hid (g < B ∧ A < B) := Lib.hid (by have := S2.out.ga; have := S2.out.am; omega)
        have HB := Lib.hid hB
        clear hB
        refine (t_keysG g v 1 14 _ (by omega) (by omega) (by omega) S2.out.tape).mono ?_
        rintro e wa ⟨l, qs, At, rfl, kq, l3, ho, ht, hg⟩
        rw [HB.out] at ho
        have Sa := Lib.hid (S2.out.call ht hg)
        have Oa := Lib.hid ho
        have KQ := Lib.hid kq
        have L3 := Lib.hid l3
        have ZA : Hid (B ≤ wa.heap.size) := Lib.hid (by have := hg.size; have := HB.out; omega)
        obtain ⟨aol, capl, rfl⟩ := ho.len
        clear ht hg ho kq l3 S2
        go_wp2_with fail
        refine (t_number g v 1 14 _ (by omega) (by omega) (by omega) Sa.out.tape).mono ?_
        rintro e wb ⟨x, rfl, x0, x1, ht, hg⟩
        have Sb := Lib.hid ((Sa.out.call ht hg).alloc (.cells (kCells ⟨60, x, 0, 0, 0, 0, 0⟩) 63))
        have Ob := Lib.hid (Own.alloc (Oa.out.kept hg (fun k hk e => by simp at hk; have := (World.ownsRow.lt Oa.out k e).1; have := GB.out; omega)) (.cells (kCells ⟨60, x, 0, 0, 0, 0, 0⟩) 63))
        have Zb : Hid (B ≤ (wb.alloc (.cells (kCells ⟨60, x, 0, 0, 0, 0, 0⟩) 63)).heap.size) := Lib.hid (by have := ZA.out; have := hg.size; simp; omega)
        have XB : Hid (1 * 65536 ≤ x ∧ x ≤ 14 * 65536 + 65535) := Lib.hid ⟨by omega, by omega⟩
        have L9 : Hid (qs.length ≤ 900) := Lib.hid (by have := L3.out; omega)
        clear ht hg x0 x1 Sa Oa
        go_wp2_with (at_builtin; refine wpList_append_ky rfl _ _ rfl rfl wb.heap.size rfl ⟨60, x, 0, 0, 0, 0, 0⟩ has_new0 Ob.out L9.out Zb.out ?_)
        intro l' wd hown' hg'

        have tk := Sb.out.keys HT.out Ob.out MB.out L3.out hown' hg'
        have KH := Lib.hid (K60.of KQ.out L3.out (by omega) (by omega) XB.out.1 XB.out.2)
        obtain ⟨aoH, capH, rfl⟩ := owns_len hown'
        have SW := TS2.setH HT.out Sb.out Ob.out MB.out L3.out hown' hg'
        have cj := tk.1.has.cell 3 _ rfl
        have fz := has_fro tk.1.has
        clear tk hown' hg' Sb Ob XB L9 Zb MB GB HB L3 KQ ZA
        obtain ⟨kH, hk⟩ : ∃ y, qs ++ [Ky.mk 60 x 0 0 0 0 0] = y := ⟨_, rfl⟩
        rw [hk] at SW KH
        clear hk
        obtain ⟨M3, hM2⟩ : ∃ M, wd.heap.size = M := ⟨_, rfl⟩
        rw [hM2] at SW
        obtain ⟨XH, hX⟩ : ∃ X, wd.setCell ⟨A, 3, none⟩ (.slice aoH (qs.length + 1) capH) = X := ⟨_, rfl⟩
        rw [hX] at SW
        have S3 := Lib.hid SW
        have HX := Lib.hid hX
        clear SW hX hM2

        go_wp2_with fail
        rw [HX.out]
        go_meet
        case rel => exact ⟨M3, _, shF_form N.out HF.out KW.out KH.out, fun _ => ⟨rfl, rfl⟩, S3.out⟩
    case rest =>
      obtain ⟨M, m⟩ := hcut
      have Q := Lib.hid m
      clear m N S1 c0 f0 f1

      go_wp2_with fail
      refine (t_next g v 3 _ (by omega) (by omega) Q.out.tape).mono ?_
      rintro e w2 ⟨x, rfl, x0, x1, ht, hg⟩
      obtain ⟨b, hb⟩ : ∃ b : Bool, decide (0 < x) = b := ⟨_, rfl⟩

      have q := Q.out.call ht hg
      obtain ⟨s, hs⟩ := q.cells
      have cj := hs.cell 5 _ rfl
      have fz := has_fro hs

      have q' := q.fill HT.out b
      obtain ⟨X1, hX⟩ : ∃ X, w2.setCell ⟨A, 5, none⟩ (.bool b) = X := ⟨_, rfl⟩
      rw [hX] at q'
      have Q1 := Lib.hid q'
      have HX := Lib.hid hX
      clear ht hg hX hs q q' Q x0 x1 

      go_upto_region 17 with fail

      rw [HX.out]
      clear HX cj fz hb
      go_wp2_with fail
      refine (t_next g v 2 _ (by omega) (by omega) Q1.out.tape).mono ?_
      rintro e w3 ⟨y, rfl, x0, x1, ht, hg⟩

      have q := Q1.out.call ht hg
      obtain ⟨s, hs⟩ := q.cells
      have cj := hs.cell 6 _ rfl
      have fz := has_fro hs

      have q' := q.rule HT.out (x := y) (by omega)
      obtain ⟨X2, hX⟩ : ∃ X, w3.setCell ⟨A, 6, none⟩ (.int .i64 y) = X := ⟨_, rfl⟩
      rw [hX] at q'
      have Q2 := Lib.hid q'
      have HX := Lib.hid hX
      clear ht hg hX hs q q' Q1 x0 x1 

      go_upto_region 18 with fail

      rw [HX.out]
      clear HX cj fz
      go_wp2_with fail
      refine (t_paint g v _ Q2.out.tape).mono ?_
      rintro e w4 ⟨pk, pa, pb, pp, pq, pr, rfl, k0, -, -, bd, ht, hg⟩
      have q := Q2.out.call ht hg
      obtain ⟨s, hs⟩ := q.cells
      have p7 := hs.cell 7 _ rfl
      have p8 := hs.cell 8 _ rfl
      have p9 := hs.cell 9 _ rfl
      have p10 := hs.cell 10 _ rfl
      have p11 := hs.cell 11 _ rfl
      have p12 := hs.cell 12 _ rfl
      have p13 := hs.cell 13 _ rfl
      have p14 := hs.cell 14 _ rfl
      have p15 := hs.cell 15 _ rfl
      have p16 := hs.cell 16 _ rfl
      have p17 := hs.cell 17 _ rfl
      have p18 := hs.cell 18 _ rfl
      have p19 := hs.cell 19 _ rfl
      have p20 := hs.cell 20 _ rfl
      have fz := has_fro hs
      have q' := q.paint HT.out (a := pa) (b := pb) k0 bd
      obtain ⟨X3, hX⟩ : ∃ X, paintW w4 A pk pa pb pp pq pr = X := ⟨_, rfl⟩
      rw [hX] at q'
      have Q3 := Lib.hid q'
      unfold paintW at hX
      have HX := Lib.hid hX
      clear ht hg hX hs q q' Q2 k0 bd
      go_upto_region 19 with fail
      rw [HX.out]
      clear HX p7 p8 p9 p10 p11 p12 p13 p14 p15 p16 p17 p18 p19 p20 fz

      go_wp2_with fail
      refine (t_next g v 3 _ (by omega) (by omega) Q3.out.tape).mono ?_
      rintro e w5 ⟨x, rfl, x0, x1, ht, hg⟩

      have Q4 := Lib.hid (Q3.out.call ht hg)
      obtain ⟨b, hb⟩ : ∃ b : Bool, (x == 0) = b := ⟨_, rfl⟩
      clear ht hg Q3
      go_upto_if 90 with fail
      clear hb x0 x1
      go_cut [90] (fun _ wx => ∃ M, MT true w g v R A z M wx)
      case first =>
        cases b
        · go_wp2_with fail
          go_meet
          case rel => exact ⟨M, Q4.out⟩
        · go_wp2_with fail
          refine (t_next g v 5 _ (by omega) (by omega) Q4.out.tape).mono ?_
          rintro e w6 ⟨x, rfl, x0, x1, ht, hg⟩
          have Q5 := Lib.hid (Q4.out.call ht hg)
          clear ht hg Q4
          go_wp2_with fail
          refine (t_color g v _ Q5.out.tape).mono ?_
          rintro e w7 ⟨ca, rfl, oa, ht, hg⟩
          have Q6 := Lib.hid (Q5.out.call ht hg)
          have OA := Lib.hid oa
          clear ht hg Q5 oa
          go_wp2_with fail
          refine (t_next g v 9 _ (by omega) (by omega) Q6.out.tape).mono ?_
          rintro e w8 ⟨y, rfl, y0, y1, ht, hg⟩
          have Q7 := Lib.hid (Q6.out.call ht hg)
          clear ht hg Q6
          go_wp2_with fail
          refine (t_color g v _ Q7.out.tape).mono ?_
          rintro e w9 ⟨cb, rfl, ob, ht, hg⟩
          have OB := Lib.hid ob
          have Q8 := (Q7.out.call ht hg).alloc (.cells #[.int .i64 x, .int .u8 ca.r, .int .u8 ca.g, .int .u8 ca.b, .int .u8 ca.q, .int .i64 1, .int .i64 0, .int .i64 0, .int .i64 0, .int .i64 0, .int .i64 (5 + y), .int .u8 cb.r, .int .u8 cb.g, .int .u8 cb.b, .int .u8 cb.q, .int .i64 0, .int .i64 0, .int .i64 0, .int .i64 0, .int .i64 0] 67)
          have am := (Q7.out.call ht hg).am
          obtain ⟨G, hG⟩ : ∃ G, w9.heap.size = G := ⟨_, rfl⟩
          have cl := colors_lie (w := w9.alloc (.cells #[.int .i64 x, .int .u8 ca.r, .int .u8 ca.g, .int .u8 ca.b, .int .u8 ca.q, .int .i64 1, .int .i64 0, .int .i64 0, .int .i64 0, .int .i64 0, .int .i64 (5 + y), .int .u8 cb.r, .int .u8 cb.g, .int .u8 cb.b, .int .u8 cb.q, .int .i64 0, .int .i64 0, .int .i64 0, .int .i64 0, .int .i64 0] 67)) OA.out OB.out (has_new hG)
          have q' := Q8.colors HT.out (colors_right ca cb x0 (by omega) y0 (by omega)) cl (fun k hk => by have e' : some G = some k := hk; simp at e'; simp; omega)
          obtain ⟨s, hs⟩ := Q8.cells
          have cj := hs.cell 21 _ rfl
          have fz := has_fro hs
          have QX := Lib.hid q'
          have hGG : w9.heap.size = G := hG
          clear ht hg Q7 Q8 am cl q' hs ob x0 x1 y0 y1 hG
          go_wp2_with fail
          go_meet
          case rel => exact ⟨_, QX.out⟩
      case rest =>
        clear Q4
        obtain ⟨M, m⟩ := hcut
        have Q := Lib.hid m
        clear m
        go_upto_region 21 with fail
        go_cut [112] (fun _ wx => ∃ M, MT true w g v R A z M wx)
        case first =>
          go_wp2_with fail
          refine (t_next g v 3 _ (by omega) (by omega) Q.out.tape).mono ?_
          rintro e w2 ⟨x, rfl, x0, x1, ht, hg⟩
          obtain ⟨b, hb⟩ : ∃ b : Bool, (x == 0) = b := ⟨_, rfl⟩
          have q := Q.out.call ht hg
          obtain ⟨s, hs⟩ := q.cells
          obtain ⟨fl, hfl⟩ : ∃ fl, s.fill = fl := ⟨_, rfl⟩
          have c5 := hs.cell 5 (.bool s.fill) rfl
          have cj := hs.cell 22 _ rfl
          rw [hfl] at c5
          have fz := has_fro hs
          have QX := Lib.hid (fun b => q.stroke HT.out b)
          clear ht hg hs q Q x0 x1 hfl
          cases b
          · go_wp2_with fail
            go_meet
            case rel => exact ⟨M, QX.out _⟩
          · go_wp2_with fail
            go_meet
            case rel => exact ⟨M, QX.out _⟩
        case rest =>
          obtain ⟨M, m⟩ := hcut
          clear Q
          have Q := Lib.hid m
          obtain ⟨s, hs⟩ := m.cells
          obtain ⟨st, hst⟩ : ∃ st, s.stroke = st := ⟨_, rfl⟩
          have cj := hs.cell 22 (.bool s.stroke) rfl
          rw [hst] at cj
          clear hst m hs
          go_upto_if 114 with fail
          clear cj
          go_cut [114] (fun _ wx => ∃ M, MT false w g v R A z M wx)
          case first =>
            cases st
            · go_wp2_with fail
              go_meet
              case rel => exact ⟨M, Q.out.weak⟩
            · go_wp2_with fail
              obtain ⟨B, hB⟩ : ∃ B, wc.heap.size = B := ⟨_, rfl⟩
              have MB : Hid (M ≤ B) := Lib.hid (by have := Q.out.am; omega)
              have GB : Hid (g < B ∧ A < B) := Lib.hid (by have := Q.out.ga; have := Q.out.am; omega)
              have HB := Lib.hid hB
              clear hB
              refine (t_keysG g v 0 4 _ (by omega) (by omega) (by omega) Q.out.tape).mono ?_
              rintro e wa ⟨l, qs, At, rfl, kq, l3, ho, ht, hg⟩
              rw [HB.out] at ho
              have Sa := Lib.hid (Q.out.call ht hg)
              have Oa := Lib.hid ho
              have KQ := Lib.hid kq
              have L3 := Lib.hid l3
              have ZA : Hid (B ≤ wa.heap.size) := Lib.hid (by have := hg.size; have := HB.out; omega)
              obtain ⟨aol, capl, rfl⟩ := ho.len
              clear ht hg ho kq l3 Q
              go_wp2_with fail
              refine (t_number g v 1 4 _ (by omega) (by omega) (by omega) Sa.out.tape).mono ?_
              rintro e wb ⟨x, rfl, x0, x1, ht, hg⟩
              have Sb := Lib.hid ((Sa.out.call ht hg).alloc (.cells (kCells ⟨60, x, 0, 0, 0, 0, 0⟩) 63))
              have Ob := Lib.hid (Own.alloc (Oa.out.kept hg (fun k hk e => by simp at hk; have := (World.ownsRow.lt Oa.out k e).1; have := GB.out; omega)) (.cells (kCells ⟨60, x, 0, 0, 0, 0, 0⟩) 63))
              have Zb : Hid (B ≤ (wb.alloc (.cells (kCells ⟨60, x, 0, 0, 0, 0, 0⟩) 63)).heap.size) := Lib.hid (by have := ZA.out; have := hg.size; simp; omega)
              have XB : Hid (1 * 65536 ≤ x ∧ x ≤ 4 * 65536 + 65535) := Lib.hid ⟨by omega, by omega⟩
              have L9 : Hid (qs.length ≤ 900) := Lib.hid (by have := L3.out; omega)
              clear ht hg x0 x1 Sa Oa
              go_wp2_with (at_builtin; refine wpList_append_ky rfl _ _ rfl rfl wb.heap.size rfl ⟨60, x, 0, 0, 0, 0, 0⟩ has_new0 Ob.out L9.out Zb.out ?_)
              intro l' wd hown' hg'

              have KR := (K60.of KQ.out L3.out (by omega) (by omega) (by have := XB.out.1; omega) XB.out.2).right
              obtain ⟨aow, capw, rfl⟩ := owns_len hown'
              have q' := Sb.out.width HT.out Ob.out MB.out L3.out KR hown' hg'
              obtain ⟨s, -, -, t⟩ := Sb.out
              have hs := (t.keys HT.out Ob.out MB.out L3.out hown' hg').1.has
              have cj := hs.cell 23 _ rfl
              have fz := has_fro hs
              obtain ⟨M5, hM5⟩ : ∃ y, wd.heap.size = y := ⟨_, rfl⟩
              rw [hM5] at q'
              obtain ⟨X5, hX⟩ : ∃ X, wd.setCell ⟨A, 23, none⟩ (.slice aow (qs.length + 1) capw) = X := ⟨_, rfl⟩
              rw [hX] at q'
              have Q5 := Lib.hid q'
              have HX := Lib.hid hX
              clear q' hX hM5 hs t hown' hg' KR Sb Ob XB L9 Zb MB GB HB L3 KQ ZA
              go_upto_region 24 with fail
              rw [HX.out]
              clear HX cj fz
              go_wp2_with fail
              refine (t_color g v _ Q5.out.tape).mono ?_
              rintro e w6 ⟨c, rfl, -, ht, hg⟩
              have q := Q5.out.call ht hg
              obtain ⟨s, hs⟩ := q.cells
              have p24 := hs.cell 24 _ rfl
              have p25 := hs.cell 25 _ rfl
              have p26 := hs.cell 26 _ rfl
              have p27 := hs.cell 27 _ rfl
              have fz := has_fro hs
              have q' := q.line HT.out c
              obtain ⟨X6, hX⟩ : ∃ X, lineW w6 A c = X := ⟨_, rfl⟩
              rw [hX] at q'
              unfold lineW at hX
              have Q6 := Lib.hid q'
              have HX := Lib.hid hX
              clear ht hg hX hs q q' Q5
              go_upto_region 25 with fail
              rw [HX.out]
              clear HX p24 p25 p26 p27 fz

              go_wp2_with fail
              refine (t_next g v 2 _ (by omega) (by omega) Q6.out.tape).mono ?_
              rintro e w7 ⟨y, rfl, x0, x1, ht, hg⟩

              have q := Q6.out.call ht hg
              obtain ⟨s, hs⟩ := q.cells
              have cj := hs.cell 28 _ rfl
              have fz := has_fro hs

              have q' := q.cap HT.out (x := y) (by omega)
              obtain ⟨X7, hX⟩ : ∃ X, w7.setCell ⟨A, 28, none⟩ (.int .i64 y) = X := ⟨_, rfl⟩
              rw [hX] at q'
              have Q7 := Lib.hid q'
              have HX := Lib.hid hX
              clear ht hg hX hs q q' Q6 x0 x1 

              go_upto_region 26 with fail

              rw [HX.out]
              clear HX cj fz
              go_wp2_with fail
              refine (t_next g v 4 _ (by omega) (by omega) Q7.out.tape).mono ?_
              rintro e w8 ⟨x, rfl, x0, x1, ht, hg⟩

              have Q8 := Lib.hid (Q7.out.call ht hg)
              have XB : Hid (0 ≤ x ∧ x ≤ 3) := Lib.hid (by omega)
              clear ht hg Q7 x0 x1

              go_wp2_with fail
              refine (t_next g v 2 _ (by omega) (by omega) Q8.out.tape).mono ?_
              rintro e w9 ⟨y, rfl, x0, x1, ht, hg⟩

              obtain ⟨m0, hm0, hm3⟩ : ∃ m : Nat, x * y = (m : Int) ∧ m ≤ 3 := by
                have b := XB.out
                rcases (show y = 0 ∨ y = 1 by omega) with rfl | rfl
                · exact ⟨0, by simp, by omega⟩
                · exact ⟨x.toNat, by omega, by omega⟩
              obtain ⟨s, ms, dl⟩ := (Q8.out.call ht hg).open
              have MS := Lib.hid ms
              have D := Lib.hid dl
              obtain ⟨M9, hM9⟩ : ∃ y, w9.heap.size = y := ⟨_, rfl⟩
              rw [hM9] at D
              have M3 : Hid (m0 ≤ 3) := Lib.hid hm3
              clear ht hg Q8 x0 x1 ms dl XB hM9
              go_wp2
              clear hm0
              go_loopw [9] (fun n wr => ∃ (m : Nat) (xs : List Int) (dv : Value), n = .int .i64 m ∧ m + xs.length ≤ 3 ∧ Dl w g v R A z M9 s xs dv wr) (fun n _ => (intOf n).toNat)
              case atStart => exact ⟨m0, [], _, rfl, by simpa using M3.out, D.out⟩
              case round =>
                clear D M3 hm3
                obtain ⟨m, xs, dv, rfl, hml, hD⟩ := hrel
                have ML := Lib.hid hml
                have D := Lib.hid hD
                clear hD hml
                rcases (show m = 0 ∨ ∃ j : Nat, m = j + 1 from by cases m with | zero => exact Or.inl rfl | succ j => exact Or.inr ⟨j, rfl⟩) with rfl | ⟨m, rfl⟩
                rotate_left
                · have LF : Hid (xs.length ≤ 900) := Lib.hid (by have := ML.out; omega)
                  have m3 : (m : Int) ≤ 3 := by have := ML.out; omega
                  obtain ⟨aod, capd, rfl⟩ := D.out.own.len
                  have L2 : Hid (xs.length ≤ 2) := Lib.hid (by have := ML.out; omega)
                  go_upto_region 29 with fail
                  refine dash_region HT.out (fun c a d v w h => by first | exact h | (cases d <;> exact h)) rfl rfl rfl D.out L2.out (fun y H ao cap w' hD => ?_)
                  have D2 := Lib.hid hD
                  clear hD D
                  go_wp2
                  go_roundw
                  case rel => exact ⟨m, _, _, by go_num, by have := ML.out; simp; omega, D2.out⟩
                  case measure => simp [intOf]
                · have X8 : Hid (xs.length ≤ 8) := Lib.hid (by have := ML.out; omega)
                  have QD := Lib.hid (D.out.done MS.out X8.out)
                  clear D
                  go_wp2_with fail
                  refine (t_next g v 2 _ (by omega) (by omega) QD.out.tape).mono ?_
                  rintro e wa ⟨x, rfl, x0, x1, ht, hg⟩
                  have QE := Lib.hid (QD.out.call ht hg)
                  obtain ⟨b, hb⟩ : ∃ b : Bool, (x == 0) = b := ⟨_, rfl⟩
                  clear ht hg QD
                  go_upto_if 147 with fail
                  clear hb x0 x1
                  cases b
                  · go_wp2_with fail
                    go_meet
                    case rel => exact ⟨_, QE.out⟩
                  · go_wp2_with fail
                    refine (t_keysG g v 0 1 _ (by omega) (by omega) (by omega) QE.out.tape).mono ?_
                    rintro e wb ⟨lf, qf, Af, rfl, kf, l3, ho, ht, hg⟩
                    have QF := Lib.hid (QE.out.call ht hg)
                    have BF : Hid (A < wa.heap.size ∧ g < wa.heap.size) := Lib.hid (by have := QE.out.am; have := QE.out.ga; omega)
                    have OF := Lib.hid ho
                    have KF := Lib.hid kf
                    have LF := Lib.hid l3
                    obtain ⟨aof, capf, rfl⟩ := ho.len
                    clear ht hg ho kf l3 QE
                    go_wp2_with fail
                    refine (t_keysG g v 0 1 _ (by omega) (by omega) (by omega) QF.out.tape).mono ?_
                    rintro e wc2 ⟨lt, qt, At, rfl, kt, l3, ho, ht, hg⟩
                    have QG := QF.out.call ht hg
                    have OF2 := OF.out.kept hg (fun j hj e => by simp at hj; have := (World.ownsRow.lt OF.out j e).1; have := BF.out; omega)
                    have bt : A < wb.heap.size := by have := QF.out.am; omega
                    obtain ⟨aot, capt, rfl⟩ := ho.len
                    have q' := MT.fromTo HT.out QG OF2 ho BF.out.1 bt LF.out l3 (kg_right KF.out LF.out) (kg_right kt l3)
                    obtain ⟨s, hs⟩ := QG.cells
                    have c30 := hs.cell 30 _ rfl
                    have c31 := hs.cell 31 _ rfl
                    have fz := has_fro hs
                    have QX := Lib.hid q'
                    clear ht hg ho kt l3 QG OF2 bt q' hs QF
                    go_wp2_with fail
                    go_meet
                    case rel => exact ⟨_, QX.out⟩

          case rest =>
            clear Q
            obtain ⟨M, m⟩ := hcut
            obtain ⟨s, ms, -, t⟩ := m
            have hk := t.has
            have hr := t.r
            have ones := t.lsts.lie.ones
            have ga := t.ga
            rw [← HZ.out] at hr
            have hs : wc.grownBy (wc.setRow R (shC s)) (some R) := ⟨rfl, rfl, rfl, by simp [World.setRow], fun j _ hj => setRow_other wc R j _ (fun e => hj (by rw [e]))⟩
            have PX := has_setRow (cs := shC s) hr
            have RX : Shapes3 w g v (.returned (.agg (shC s))) (wc.setRow R (shC s)) := ⟨s, rfl, ms, (t.lsts.kept (fun k _ k1 _ => setRow_other wc R k _ (by omega))).lie, HT.out.young t.tape hs (fun j hj => by simp at hj; omega), grownBy_own t.grown hs (fun j hj => by simp at hj; omega)⟩
            obtain ⟨X, hX⟩ : ∃ X, wc.setRow R (shC s) = X := ⟨_, rfl⟩
            rw [hX] at PX RX
            have RH := Lib.hid RX
            clear RX hs t ms ga HZ HR HW HNE
            go_upto_region 32 with fail
            apply wp_region_lit
            refine wpList_load_row rfl 37 _ rfl A rfl 37 _ (0, 0) _ hk Try.underlying37 rfl (by kernel_rfl) ?_
            refine wpList_store_row rfl 37 _ _ rfl R (shC s) rfl rfl 37 _ hr (by kernel_rfl) rfl ones ?_
            apply wpList_nil
            rw [hX]
            clear hX hk hr
            go_wp2_with fail
            refine bodyPost_ret (v := .agg (shC s)) (results_cell_row rfl _ _ R 37 _ (0, 0) _ rfl PX Try.underlying37 rfl (by kernel_rfl)) rfl ?_
            exact RH.out

end Go.Proofs.Ytglbfpjjnboeaaa
