/- Contracts of the reference's near, Wind and Cover: for all lists of polys what the plain arithmetic says; of the memory nothing that was there turns. -/
import Derived.Test.YtopepgifhnfbiaaCvMath
import Derived.Test.YtopepgifhnfbiaaY8
import Derived.Test.YtopepgifhnfbiaaTwoP
import Derived.Test.YtopepgifhnfbiaaA
namespace Go.Proofs.Ytopepgifhnfbiaa
open Go Go.RowKit
open M

/-- How often polys go round a place. -/
def windY (x y : Int) (ys : List Po) : Int := windN (place x) (place y) (fun i => (po ys i).ps) ys.length
theorem side_in {a b : Pt} {x y : Int} (h : ∀ p ∈ [a, b], -536870912 ≤ p.x ∧ p.x ≤ 536870912 ∧ -536870912 ≤ p.y ∧ p.y ≤ 536870912) (hx : -536870912 ≤ x ∧ x ≤ 536870912) (hy : -536870912 ≤ y ∧ y ≤ 536870912) :
    (-1152921504606846976 ≤ (b.x - a.x) * (y - a.y) ∧ (b.x - a.x) * (y - a.y) ≤ 1152921504606846976) ∧ -1152921504606846976 ≤ (x - a.x) * (b.y - a.y) ∧ (x - a.x) * (b.y - a.y) ≤ 1152921504606846976 := by
  obtain ⟨a1, a2, a3, a4⟩ := h a (by simp)
  obtain ⟨b1, b2, b3, b4⟩ := h b (by simp)
  have e1 := mul_two (m := 1073741824) (show -1073741824 ≤ b.x - a.x by omega) (by omega) (show -1073741824 ≤ y - a.y by omega) (by omega)
  have e2 := mul_two (m := 1073741824) (show -1073741824 ≤ x - a.x by omega) (by omega) (show -1073741824 ≤ b.y - a.y by omega) (by omega)
  omega
theorem windS_few {x y : Int} {ps : List Pt} {k : Nat} (h : ps.length < 2) (hk : k ≤ ps.length) : windS x y ps k = windP x y ps := by
  rcases (show k = 0 ∨ k = ps.length by omega) with e | e
  · rw [windP_few h, e]; rfl
  · rw [e, windS_all]

theorem r15_near (x : Int) (w : World) : Calls Try.prog 43 #[.int .i64 x] w fun e w' => e = .returned (.bool (nearB x)) ∧ w = w' := by
  by_cases h1 : -256 ≤ x
  · by_cases h2 : x ≤ 256
    · have e : nearB x = true := nearB_iff.2 ⟨h1, h2⟩
      rw [e]
      go_enter Try.func43, Try.ntmps43
      go_wp2
      go_ret
      exact ⟨rfl, rfl⟩
    · have e : nearB x = false := by rw [Bool.eq_false_iff]; intro h; have := nearB_iff.1 h; omega
      rw [e]
      go_enter Try.func43, Try.ntmps43
      go_wp2
      go_ret
      exact ⟨rfl, rfl⟩
  · have e : nearB x = false := by rw [Bool.eq_false_iff]; intro h; have := nearB_iff.1 h; omega
    rw [e]
    go_enter Try.func43, Try.ntmps43
    go_wp2
    go_ret
    exact ⟨rfl, rfl⟩
/-- Two variables of one statement. -/
abbrev vs2 (n m : Nat) (a b : Pt) : List (Nat × Nat × Array Value) := [(n, m, pCells a), (n + 1, m + 1, pCells b)]

set_option maxRecDepth 100000 in
set_option maxHeartbeats 4000000 in
theorem r15_wind {v : Value} {ys : List Po} {w : World} (x y : Int) (h : Ysl w v ys) :
    Calls Try.prog 14 #[v, .int .i64 x, .int .i64 y] w fun r w' => r = .returned (.int .i64 (windY x y ys)) ∧ Below w.heap.size w w' := by
  obtain ⟨N, hN⟩ : ∃ N, ys.length = N := ⟨_, rfl⟩
  obtain ⟨ao, cap, ev⟩ : ∃ ao cap, v = .slice ao N cap := by obtain ⟨ao, cap, e, _⟩ := h; rw [hN] at e; exact ⟨_, _, e⟩
  subst ev
  unfold windY
  rw [hN]
  have HS := Lib.hid h
  have hN1 : N ≤ 1000 := by obtain ⟨_, _, _, hf, _⟩ := h; omega
  have HN1 := Lib.hid hN1
  have HN := Lib.hid hN
  obtain ⟨X, hX⟩ : ∃ X, place x = X := ⟨_, rfl⟩
  obtain ⟨Y, hY⟩ : ∃ Y, place y = Y := ⟨_, rfl⟩
  have XI : Hid (-536870912 ≤ X ∧ X ≤ 536870912) := Lib.hid (hX ▸ ⟨place_lo x, place_hi x⟩)
  have YI : Hid (-536870912 ≤ Y ∧ Y ≤ 536870912) := Lib.hid (hY ▸ ⟨place_lo y, place_hi y⟩)
  obtain ⟨F, hF⟩ : ∃ F, (fun i => (po ys i).ps) = F := ⟨_, rfl⟩
  rw [hX, hY, hF]
  have HX := Lib.hid hX
  have HY := Lib.hid hY
  have HF := Lib.hid hF.symm
  clear h hN hN1 hX hY hF
  go_enter Try.func14, Try.ntmps14
  go_upto_region 1 with fail
  go_wp2_with (first | (go_at_call_of 27 x; refine (r_place _ _).mono ?_; rintro e w' ⟨rfl, rfl⟩) | (go_at_call_of 27 y; refine (r_place _ _).mono ?_; rintro e w' ⟨rfl, rfl⟩))
  rw [HX.out, HY.out]
  go_loopw [7, 8] (fun s i wr => ∃ n : Nat, n ≤ N ∧ i = .int .i64 n ∧ s = .int .i64 (windN X Y F n) ∧ Below w.heap.size w wr) (fun _ i _ => N - (intOf i).toNat)
  case atStart => exact ⟨0, by omega, rfl, rfl, Below.refl _ _⟩
  case round =>
    obtain ⟨n, hn, rfl, rfl, hb⟩ := hrel
    have o0 : (N : Int) ≤ 1000 := by have := HN1.out; omega
    have HB := Lib.hid hb
    obtain ⟨s, hs⟩ : ∃ s, windN X Y F n = s := ⟨_, rfl⟩
    have SI : Hid (-8796093022208000 ≤ s ∧ s ≤ 8796093022208000) := Lib.hid (by
      have h1 := windN_in X Y F (m := 8796093022208) (n := n) (fun i hi => by
        rw [HF.out]
        obtain ⟨g, o, _, r0, l0⟩ := HS.out.row (by omega)
        exact (r0.sl i (by omega)).few)
      rw [hs] at h1
      omega)
    rw [hs]
    have HSN := Lib.hid hs
    clear hs
    by_cases hlt : n < N
    · obtain ⟨g, o, e1, r0, l0⟩ := HS.out.row (by omega)
      subst e1
      have hsl := r0.sl n (by omega)
      have cs := (r0.below hb (by omega)).c1 n (by omega)
      obtain ⟨p, hp⟩ : ∃ p, po ys n = p := ⟨_, rfl⟩
      have HFN : Hid (F n = p.ps) := Lib.hid (by rw [HF.out]; show (po ys n).ps = _; rw [hp])
      rw [hp] at hsl cs
      obtain ⟨c, vy, ps⟩ := p
      simp only at hsl HFN cs
      obtain ⟨K, hK⟩ : ∃ K, ps.length = K := ⟨_, rfl⟩
      obtain ⟨aoy, capy, evy⟩ : ∃ ao cap, vy = .slice ao K cap := by obtain ⟨ao, cap, hv, _⟩ := hsl; rw [hK] at hv; exact ⟨_, _, hv⟩
      subst evy
      have SV := Lib.hid hsl
      have HKL := Lib.hid hK
      have o6 : (K : Int) ≤ 8796093022208 := by have := hsl.few; omega
      have o3 : (n : Int) < N := by omega
      clear r0 l0 hp hsl hK
      go_wp2_with fail
      go_loopw [7, 10] (fun t i wk => ∃ k : Nat, k ≤ K ∧ i = .int .i64 k ∧ t = .int .i64 (s + windS X Y ps k) ∧ Below w.heap.size w wk) (fun _ i _ => K - (intOf i).toNat)
      case atStart => exact ⟨0, by omega, rfl, by rw [show windS X Y ps 0 = 0 from rfl, Int.add_zero], HB.out⟩
      case round =>
        clear cs hb
        obtain ⟨k, hk, rfl, rfl, hb⟩ := hrel
        have HBK := Lib.hid hb
        have hw := windS_in X Y ps k
        obtain ⟨t, ht⟩ : ∃ t, s + windS X Y ps k = t := ⟨_, rfl⟩
        have TI : Hid (-8804889115230208 ≤ t ∧ t ≤ 8804889115230208) := Lib.hid (by have := SI.out; have := SV.out.few; have := HKL.out; omega)
        rw [ht]
        have HT := Lib.hid ht
        clear ht hw
        by_cases hK2 : k < K
        · by_cases h2 : 2 ≤ K
          · obtain ⟨gq, oq, eq, row, -⟩ := (SV.out.below hb (Nat.le_refl _)).row (by omega)
            subst eq
            obtain ⟨j, hj⟩ : ∃ j, nxt K k = j := ⟨_, rfl⟩
            obtain ⟨a, ha⟩ : ∃ a, pt ps k = a := ⟨_, rfl⟩
            obtain ⟨b, hb'⟩ : ∃ b, pt ps j = b := ⟨_, rfl⟩
            have hjl : j < K := by rw [← hj]; exact nxt_lt hK2
            have hmod : Int.tmod ((k : Int) + 1) (K : Int) = (j : Int) := by rw [nxt_mod hK2, hj]
            have PX : Hid (∀ (R : World → Prop) (z : LaterR wr R), (z.to.cell? ⟨gq, oq + k * 2, none⟩ = some (.int .i64 a.x) ∧ z.to.cell? ⟨gq, oq + k * 2 + 1, none⟩ = some (.int .i64 a.y)) ∧ (z.to.cell? ⟨gq, oq + j * 2, none⟩ = some (.int .i64 b.x) ∧ z.to.cell? ⟨gq, oq + j * 2 + 1, none⟩ = some (.int .i64 b.y))) := Lib.hid (fun R z => ⟨row.laterR (by rw [HKL.out]; omega) ha z, row.laterR (by rw [HKL.out]; omega) hb' z⟩)
            have HW1 : Hid (w1 X Y (sa ps k) (sb ps k) = w1 X Y (plc a) (plc b)) := Lib.hid (by unfold sa sb; rw [HKL.out, hj, ha, hb'])
            have o7 : (k : Int) < K := by omega
            have o8 : (2 : Int) ≤ K := by omega
            have o9 : (j : Int) < K := by omega
            have oN : ¬ (K : Int) = 0 := by omega
            clear row hj ha hb' hb
            go_upto_region 10 with fail
            refine wp_region_gen 15 [12, 13, 14] [] [0, 0, 0, 0, 0, 0, 0, 0, 0, 0, 0, 0, 1, 1, 1] (by kernel_rfl) (by kernel_rfl) (fun c a d v w h => by cases d <;> exact h) trivial (fun G w' => Vars wr.heap.size 28 zc2 (vs2 12 14 a b) G w') (fun G w w' h hb => h.stay hb) Vars.start ?_
            apply Exists.intro
            refine ⟨fun R hR hN => ?_, ?_, ?_⟩
            · have A0 := fun z => (PX.out R z).1.1
              have A1 := fun z => (PX.out R z).1.2
              have B0 := fun z => (PX.out R z).2.1
              have B1 := fun z => (PX.out R z).2.2
              simp only [quietL, takeA]
              repeat (go_big_quiet_step (fail))
              exact wpQuiet_nil rfl
            · intro i oo hi ho
              have hi' : i = 12 ∨ i = 13 ∨ i = 14 := by simpa using hi
              clear hi
              rcases hi' with rfl | rfl | rfl
              · cases ho
                intro G w' hG hGn hdep hb hR
                refine ⟨rfl, gives_none (by kernel_rfl) hGn ?_⟩
                unfold gives
                simp [go_sem]
                exact ⟨hb.alloc hb.size _, hR.alloc (i := 12) (s := 14) (cs := pCells a) rfl (by simp) (by intro y hy he; simp at hy; rcases hy with rfl | rfl <;> simp at he ⊢) hG hb.size⟩
              · cases ho
                intro G w' hG hGn hdep hb hR
                refine ⟨rfl, gives_none (by kernel_rfl) hGn ?_⟩
                unfold gives
                simp [go_sem]
                exact ⟨hb.alloc hb.size _, hR.alloc (i := 13) (s := 15) (cs := pCells b) rfl (by simp) (by intro y hy he; simp at hy; rcases hy with rfl | rfl <;> simp at he ⊢) hG hb.size⟩
              · cases ho
                intro G w' hG hGn hdep hb hR
                obtain ⟨v, hv⟩ := Option.ne_none_iff_exists'.1 (hdep 12 (by simp) (by kernel_rfl))
                obtain ⟨gx, rfl, hgx, hhx⟩ := hR.has (12, 14, pCells a) (by simp) v hv
                rw [if_pos hG] at hhx
                refine ⟨rfl, gives_one (k := 12) (by kernel_rfl) hGn (by omega) hv ?_⟩
                have cx0 := hhx.cell 0 _ rfl
                have cx1 := hhx.cell 1 _ rfl
                have fx := has_fro hhx
                unfold gives
                simp [go_sem, dstAt, Act.put, cx0, cx1, fx]
                exact ⟨(hb.setCell hgx _).setCell hgx _, hR.store (i := 12) (s := 14) (za := .int .i64 0) (zb := .int .i64 0) rfl rfl (by simp) (by intro y hy he; simp at hy; rcases hy with rfl | rfl <;> simp at he ⊢) hv hG⟩
            · intro G w3 hb3 hR hG hN
              obtain ⟨v0, e0⟩ := hG 12 (by simp)
              obtain ⟨v1, e1⟩ := hG 13 (by simp)
              obtain ⟨s0, t0⟩ := hG 14 (by simp)
              obtain ⟨g0, rfl, l0, k0⟩ := hR.has (12, 14, pCells a) (by simp) v0 e0
              obtain ⟨g1, rfl, l1, k1⟩ := hR.has (13, 15, pCells b) (by simp) v1 e1
              rw [if_neg (by simp [t0])] at k0
              rw [if_pos (hN 15 (by simp))] at k1
              have n01 : g0 ≠ g1 := fun e => hR.ne (12, 14, pCells a) (by simp) (13, 15, pCells b) (by simp) (by simp) _ e0 (by rw [e1, e])
              have nn : ∀ j, j < 12 → G j = none := fun j hj => hN j (by simp; omega)
              simp only [putV, dstAt, e0, e1, t0, nn 0 (by decide), nn 1 (by decide), nn 2 (by decide), nn 3 (by decide), nn 4 (by decide), nn 5 (by decide), nn 6 (by decide), nn 7 (by decide), nn 8 (by decide), nn 9 (by decide), nn 10 (by decide), nn 11 (by decide), List.drop_succ_cons, List.drop_zero, List.getElem?_cons_succ, List.getElem?_cons_zero, Option.bind_some]
              have c30 := k1.cell 0 _ rfl
              have c31 := k1.cell 1 _ rfl
              have f3 := has_fro k1
              obtain ⟨V, hV⟩ : ∃ V, (w3.setCell ⟨g1, 0, none⟩ (.int .i64 b.x)).setCell ⟨g1, 1, none⟩ (.int .i64 b.y) = V := ⟨_, rfl⟩
              have v0 : Has V g0 (pCells a) 28 := by rw [← hV]; exact two_off k0 (Ne.symm n01) _ _
              have v1 : Has V g1 (pCells b) 28 := by rw [← hV]; exact two_set k1 _ _
              have bV : Below wr.heap.size w3 V := by rw [← hV]; exact below_two l1 _ _
              have V0 := Lib.hid v0
              have V1 := Lib.hid v1
              have HV := Lib.hid hV
              have BV : Hid (Below w.heap.size w V) := Lib.hid (HBK.out.trans ((hb3.trans bV).mono HBK.out.size))
              clear k0 k1 hb3 v0 v1 bV hV l0 l1 hR hG hN nn e0 e1 t0 n01
              go_upto_region 11 with fail
              rw [HV.out]
              clear c30 c31 f3 HV
              have a0 := V0.out.cell 0 _ rfl
              have a1 := V0.out.cell 1 _ rfl
              obtain ⟨ax, ay⟩ := a
              obtain ⟨bx, by'⟩ := b
              go_quiet (first | (go_at_call_of 27 ax; exact quiet1 (r_place ax _)) | (go_at_call_of 27 ay; exact quiet1 (r_place ay _)))
              obtain ⟨Z, hZ⟩ : ∃ Z, V.drewN nq = Z := ⟨_, rfl⟩
              have BZ : Below V.heap.size V Z := by rw [← hZ]; exact below_drewN (Below.refl _ _) _
              have Z1 := V1.out.below BZ V1.out.lt
              have BZ2 : Hid (Below w.heap.size w Z) := Lib.hid (BV.out.trans (BZ.mono BV.out.size))
              rw [hZ]
              have b0 := Z1.cell 0 _ rfl
              have b1 := Z1.cell 1 _ rfl
              clear hZ BZ a0 a1 Z1
              go_upto_region 12 with fail
              go_quiet (first | (go_at_call_of 27 bx; exact quiet1 (r_place bx _)) | (go_at_call_of 27 by'; exact quiet1 (r_place by' _)))
              obtain ⟨Z2, hZ2⟩ : ∃ Z2, Z.drewN nq = Z2 := ⟨_, rfl⟩
              have BZ3 : Hid (Below w.heap.size w Z2) := Lib.hid (by rw [← hZ2]; exact below_drewN BZ2.out _)
              rw [hZ2]
              clear hZ2 b0 b1
              obtain ⟨ax', ex⟩ : ∃ a, place ax = a := ⟨_, rfl⟩
              obtain ⟨ay', ey⟩ : ∃ a, place ay = a := ⟨_, rfl⟩
              obtain ⟨bx', fx⟩ : ∃ a, place bx = a := ⟨_, rfl⟩
              obtain ⟨by2, fy⟩ : ∃ a, place by' = a := ⟨_, rfl⟩
              have PP : Hid (-536870912 ≤ ax' ∧ ax' ≤ 536870912 ∧ -536870912 ≤ ay' ∧ ay' ≤ 536870912 ∧ -536870912 ≤ bx' ∧ bx' ≤ 536870912 ∧ -536870912 ≤ by2 ∧ by2 ≤ 536870912) := Lib.hid (by rw [← ex, ← ey, ← fx, ← fy]; exact ⟨place_lo _, place_hi _, place_lo _, place_hi _, place_lo _, place_hi _, place_lo _, place_hi _⟩)
              have HW2 : Hid (w1 X Y (sa ps k) (sb ps k) = w1 X Y ⟨ax', ay'⟩ ⟨bx', by2⟩) := Lib.hid (by rw [HW1.out, ← ex, ← ey, ← fx, ← fy]; rfl)
              rw [ex, ey, fx, fy]
              clear ex ey fx fy
              have hside := side_in (a := ⟨ax', ay'⟩) (b := ⟨bx', by2⟩) (x := X) (y := Y) (by intro p hp; simp at hp; have := PP.out; rcases hp with rfl | rfl <;> (simp only; omega)) XI.out YI.out
              simp only at hside
              obtain ⟨⟨m1, m2⟩, m3, m4⟩ := hside
              have x1 := XI.out
              have y1 := YI.out
              have p1 := PP.out
              go_upto_region 14 with fail
              clear x1 y1 p1 m1 m2 m3 m4
              obtain ⟨D, hD⟩ : ∃ D, (bx' - ax') * (Y - ay') - (X - ax') * (by2 - ay') = D := ⟨_, rfl⟩
              have EE : Hid (∀ c : Int, (if ay' ≤ Y ∧ Y < by2 ∧ 0 < D then 1 else if by2 ≤ Y ∧ Y < ay' ∧ D < 0 then -1 else 0) = c → s + windS X Y ps (k + 1) = t + c) := Lib.hid (by
                intro c hc
                have h1 : w1 X Y ⟨ax', ay'⟩ ⟨bx', by2⟩ = c := by
                  unfold w1 sideW
                  simp only
                  rw [hD]
                  exact hc
                rw [windS_step, HW2.out, h1, ← HT.out]
                omega)
              rw [hD]
              clear hD
              have t1 := TI.out
              by_cases h1 : ay' ≤ Y
              · by_cases h2' : Y < by2
                · by_cases h3 : 0 < D
                  · have E := EE.out (1) (by first | (rw [if_pos (by omega)]; done) | (rw [if_neg (by omega), if_pos (by omega)]; done) | (rw [if_neg (by omega), if_neg (by omega)]; done))
                    go_wp2
                    go_roundw
                    case rel => exact ⟨k + 1, by omega, by go_num, by first | (rw [E]; done) | (rw [E]; go_num), BZ3.out⟩
                    case measure => simp [intOf]; omega
                  · have E := EE.out (0) (by first | (rw [if_pos (by omega)]; done) | (rw [if_neg (by omega), if_pos (by omega)]; done) | (rw [if_neg (by omega), if_neg (by omega)]; done))
                    go_wp2
                    go_roundw
                    case rel => exact ⟨k + 1, by omega, by go_num, by first | (rw [E]; done) | (rw [E]; go_num), BZ3.out⟩
                    case measure => simp [intOf]; omega
                · have E := EE.out (0) (by first | (rw [if_pos (by omega)]; done) | (rw [if_neg (by omega), if_pos (by omega)]; done) | (rw [if_neg (by omega), if_neg (by omega)]; done))
                  go_wp2
                  go_roundw
                  case rel => exact ⟨k + 1, by omega, by go_num, by first | (rw [E]; done) | (rw [E]; go_num), BZ3.out⟩
                  case measure => simp [intOf]; omega
              · by_cases h2' : by2 ≤ Y
                · by_cases h3 : D < 0
                  · have E := EE.out (-1) (by first | (rw [if_pos (by omega)]; done) | (rw [if_neg (by omega), if_pos (by omega)]; done) | (rw [if_neg (by omega), if_neg (by omega)]; done))
                    go_wp2
                    go_roundw
                    case rel => exact ⟨k + 1, by omega, by go_num, by first | (rw [E]; done) | (rw [E]; go_num), BZ3.out⟩
                    case measure => simp [intOf]; omega
                  · have E := EE.out (0) (by first | (rw [if_pos (by omega)]; done) | (rw [if_neg (by omega), if_pos (by omega)]; done) | (rw [if_neg (by omega), if_neg (by omega)]; done))
                    go_wp2
                    go_roundw
                    case rel => exact ⟨k + 1, by omega, by go_num, by first | (rw [E]; done) | (rw [E]; go_num), BZ3.out⟩
                    case measure => simp [intOf]; omega
                · have E := EE.out (0) (by first | (rw [if_pos (by omega)]; done) | (rw [if_neg (by omega), if_pos (by omega)]; done) | (rw [if_neg (by omega), if_neg (by omega)]; done))
                  go_wp2
                  go_roundw
                  case rel => exact ⟨k + 1, by omega, by go_num, by first | (rw [E]; done) | (rw [E]; go_num), BZ3.out⟩
                  case measure => simp [intOf]; omega
          · have o7 : (k : Int) < K := by omega
            have o8 : ¬ (2 : Int) ≤ K := by omega
            go_wp2
            go_roundw
            case rel => exact ⟨n + 1, by omega, by go_num, by rw [windN_step, HSN.out, HFN.out, ← windS_few (by rw [HKL.out]; omega) (by rw [HKL.out]; exact hk), HT.out], HBK.out⟩
            case measure => simp [intOf]; omega
        · obtain rfl : k = K := by omega
          have o7 : ¬ (k : Int) < k := by omega
          go_wp2
          go_roundw
          case rel => exact ⟨n + 1, by omega, by go_num, by rw [windN_step, HSN.out, HFN.out, ← windS_all, HKL.out, HT.out], HBK.out⟩
          case measure => simp [intOf]; omega
    · obtain rfl : n = N := by omega
      have o3 : ¬ (n : Int) < n := by omega
      go_wp2
      go_ret
      exact ⟨by rw [HSN.out]; rfl, hb⟩

end Go.Proofs.Ytopepgifhnfbiaa
