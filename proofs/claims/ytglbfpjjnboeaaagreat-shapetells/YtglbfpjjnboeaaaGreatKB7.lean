/- Contracts of path.bareKeys, .share: for all keys what the plain arithmetic says; of the memory nothing that was there turns. -/
import Derived.Test.YtglbfpjjnboeaaaGreatK7
import Derived.Test.YtglbfpjjnboeaaaGreatMKK
import Derived.Test.YtglbfpjjnboeaaaGreatKN7
import Derived.Test.YtglbfpjjnboeaaaGreatL5
namespace Go.Proofs.YtglbfpjjnboeaaaGreat
open Go.RowKit
open M

/-- The first n keys of a row of the call's own are told by f. -/
def Kfill (w1 : World) (B N gs : Nat) (f : Nat → Ky) (n : Nat) (wr : World) : Prop := ∃ qs : List Ky, qs.length = N ∧ (∀ j, j < n → ky qs j = f j) ∧ Own wr B (.slice (some ⟨gs, 0, none⟩) N N) qs ∧ Below B w1 wr
theorem own_below {w w' : World} {B B' : Nat} {v : Value} {qs : List Ky} (h : Own w B v qs) (hb : Below B' w w') (hB : w.heap.size ≤ B') : Own w' B v qs :=
  World.ownsRow.kept h (grownBy_below hb hB) (by by_cases e : v.ownBlock = none; exact Or.inl e; exact Or.inr e)
theorem Kfill.later {w1 V V' : World} {B N gs n : Nat} {f : Nat → Ky} (h : Kfill w1 B N gs f n V) (hb : Below V.heap.size V V') (hB : B ≤ V.heap.size) : Kfill w1 B N gs f n V' := by
  obtain ⟨qs, hl, hst, ho, h1⟩ := h
  exact ⟨qs, hl, hst, own_below ho hb (Nat.le_refl _), h1.trans (hb.mono hB)⟩
theorem Kfill.step {w1 V : World} {B N gs n : Nat} {f : Nat → Ky} {k : Ky} (h : Kfill w1 B N gs f n V) (hn : n < N) (hk : f n = k) :
    Kfill w1 B N gs f (n + 1) (((((((V.setCell ⟨gs, n * 7, none⟩ (.int .i64 k.t)).setCell ⟨gs, n * 7 + 1, none⟩ (.int .i64 k.v)).setCell ⟨gs, n * 7 + 2, none⟩ (.int .i64 k.h)).setCell ⟨gs, n * 7 + 3, none⟩ (.int .i64 k.a)).setCell ⟨gs, n * 7 + 4, none⟩ (.int .i64 k.b)).setCell ⟨gs, n * 7 + 5, none⟩ (.int .i64 k.c)).setCell ⟨gs, n * 7 + 6, none⟩ (.int .i64 k.d)) := by
  obtain ⟨qs, hq, hst, hown, hb⟩ := h
  have hg := hown.base.1
  have h0 : Own V B (.slice (some ⟨gs, 0, none⟩) N N) (qs.set n (ky qs n)) := by rw [set_self]; exact hown
  have h1 := h0.put' hq hn 0 (n * 7) (by decide) rfl k.t
  have h2 := h1.put' hq hn 1 (n * 7 + 1) (by decide) rfl k.v
  have h3 := h2.put' hq hn 2 (n * 7 + 2) (by decide) rfl k.h
  have h4 := h3.put' hq hn 3 (n * 7 + 3) (by decide) rfl k.a
  have h5 := h4.put' hq hn 4 (n * 7 + 4) (by decide) rfl k.b
  have h6 := h5.put' hq hn 5 (n * 7 + 5) (by decide) rfl k.c
  have h7 := h6.put' hq hn 6 (n * 7 + 6) (by decide) rfl k.d
  refine ⟨qs.set n k, by simpa using hq, ?_, h7, ((((((hb.setCell hg _).setCell hg _).setCell hg _).setCell hg _).setCell hg _).setCell hg _).setCell hg _⟩
  intro j hj
  by_cases e : n = j
  · subst e; rw [ky_set_eq (by omega), hk]
  · rw [ky_set_ne e]; exact hst j (by omega)
theorem kys_ext {ps qs : List Ky} (hl : ps.length = qs.length) (h : ∀ i, i < ps.length → ky ps i = ky qs i) : ps = qs := by
  apply List.ext_getElem?
  intro i
  by_cases hi : i < ps.length
  · have e := h i hi
    unfold ky at e
    rw [List.getD_eq_getElem?_getD, List.getD_eq_getElem?_getD, List.getElem?_eq_getElem hi, List.getElem?_eq_getElem (by omega)] at e
    rw [List.getElem?_eq_getElem hi, List.getElem?_eq_getElem (by omega)]
    exact congrArg some e
  · rw [List.getElem?_eq_none (by omega), List.getElem?_eq_none (by omega)]
def Bare7 (w : World) (ks : List Pk) (e : Ending) (w' : World) : Prop := ∃ v, e = .returned v ∧ Own w' w.heap.size v (barep ks) ∧ Below w.heap.size w w'

set_option maxHeartbeats 2000000 in
theorem p_bareKeys {v : Value} {ks : List Pk} {w : World} (h : Kl w v ks) : Calls Tryz.prog 84 #[v] w (Bare7 w ks) := by
  have hs := h
  obtain ⟨ao, cap, rfl, hf, _⟩ := h
  obtain ⟨N, hN⟩ : ∃ N, ks.length = N := ⟨_, rfl⟩
  rw [hN] at hf hs ⊢
  have mk := make_kys (n := N) (by omega)
  obtain ⟨B, hB⟩ : ∃ B, w.heap.size = B := ⟨_, rfl⟩
  obtain ⟨W, hW⟩ : ∃ W, w.alloc (.cells (zek N) 38) = W := ⟨_, rfl⟩
  have F0 : Kfill w B N B (fun i => barev (pk ks i) 0) 0 W := by
    rw [← hW]
    exact ⟨_, by simp, fun j hj => by omega, own_kys (by omega) (by omega) hB, (Below.refl _ _).alloc (by omega) _⟩
  have HS := Lib.hid hs
  have HF0 := Lib.hid F0
  have HN := Lib.hid hN
  have HB := Lib.hid hB
  have HW := Lib.hid hW
  clear hs F0 hN hW
  go_enter Tryz.func84, Tryz.ntmps84
  go_wp2
  rw [HW.out]
  clear hB mk
  go_loopw [4, 5, 11] (fun _ _ i wr => ∃ n : Nat, n ≤ N ∧ i = .int .i64 n ∧ Kfill w B N B (fun i => barev (pk ks i) 0) n wr) (fun _ _ i _ => N - (intOf i).toNat)
  case atStart => exact ⟨0, by omega, rfl, HF0.out⟩
  case round =>
    clear HF0 HW
    obtain ⟨n, hn, rfl, hfl⟩ := hrel
    have HFL := Lib.hid hfl
    obtain ⟨qs, hq, hst, hown, hb⟩ := hfl
    have hwB := HB.out
    by_cases hlt : n < N
    · obtain ⟨g, o, e1, r0, l0⟩ := HS.out.row (by omega)
      have r := r0.below hb (by have := r0.lt (by omega); omega) (by omega)
      subst e1
      have c0 := r.c0 n (by omega)
      have c1 := r.c1 n (by omega)
      have c2 := r.c2 n (by omega)
      have c3 := r.c3 n (by omega)
      have c4 := r.c4 n (by omega)
      have c5 := r.c5 n (by omega)
      have c6 := r.c6 n (by omega)
      have c7 := r.c7 n (by omega)
      have hsh := (r.sl n (by omega)).shape
      obtain ⟨k, hk⟩ : ∃ k, pk ks n = k := ⟨_, rfl⟩
      rw [hk] at c0 c1 c2 c3 c4 c5 c6 c7 hsh
      have BK := Lib.hid (fun w => p_bareKey k 0 w hsh)
      have HK := Lib.hid hk
      have o1 : (n : Int) < N := by omega
      have sz : Hid (B ≤ wr.heap.size) := Lib.hid (by have := hb.size; omega)
      have HQ := Lib.hid hq
      clear r r0 l0 hk hst hown hb hq hwB
      obtain ⟨kt, kcl, kv, kps, kh, ka, kb, kc, kd⟩ := k
      simp only at c0 c1 c2 c3 c4 c5 c6 c7 hsh
      obtain ⟨aov, nv, capv, rfl⟩ := hsh
      go_wp2_with fail
      refine (BK.out _).mono ?_
      rintro e w2 ⟨rfl, hq⟩
      have b2 : Below wr.heap.size wr w2 := ((Below.refl _ _).alloc (Nat.le_refl _) _).trans (hq.mono (by simp))
      have F2 := HFL.out.later b2 sz.out
      obtain ⟨qs2, l2, _, ho2, _⟩ := F2
      have r2 := ho2.row (by omega) (by omega)
      have d0 := r2.c0 n (by omega)
      have d1 := r2.c1 n (by omega)
      have d2 := r2.c2 n (by omega)
      have d3 := r2.c3 n (by omega)
      have d4 := r2.c4 n (by omega)
      have d5 := r2.c5 n (by omega)
      have d6 := r2.c6 n (by omega)
      rw [Nat.zero_add] at d0 d1 d2 d3 d4 d5 d6
      have fz := ho2.fro l2
      have R9 := Lib.hid ((HFL.out.later b2 sz.out).step hlt (k := ⟨kt, 0, kh, ka, kb, kc, kd⟩) (by show barev (pk ks n) 0 = _; rw [HK.out]; rfl))
      clear r2 ho2 b2 hq BK c0 c1 c2 c3 c4 c5 c6 c7
      go_wp2
      go_roundw
      case rel => exact ⟨n + 1, by omega, by go_num, R9.out⟩
      case measure => simp [intOf]; omega
    · obtain rfl : n = N := by omega
      have e : qs = barep ks := kys_ext (by rw [barep_length, HN.out]; exact hq) (fun i hi => by rw [ky_barep (by rw [HN.out]; omega)]; exact hst i (by omega))
      subst e
      have R : Hid (Bare7 w ks (.returned (.slice (some ⟨B, 0, none⟩) n n)) wr) := Lib.hid ⟨_, rfl, by rw [hwB]; exact hown, by rw [hwB]; exact hb⟩
      have o1 : (n : Int) ≤ n := by omega
      clear hown hb hst hq hwB
      go_wp2
      go_ret
      exact R.out

theorem Ht.keys {W w' : World} {ga gb : Nat} {x y : Pk} {t : TypeId} (h : Ht W w') (H0 : Has W ga (pkCells x) t) (H1 : Has W gb (pkCells y) t) :
    Ht W w' ∧ w'.cell? ⟨ga, 0, none⟩ = some (.int .i64 x.t) ∧ w'.cell? ⟨ga, 1, none⟩ = some (.bool x.cl) ∧ w'.cell? ⟨ga, 2, none⟩ = some x.v ∧ w'.cell? ⟨ga, 3, none⟩ = some (.int .i64 x.h) ∧ w'.cell? ⟨ga, 4, none⟩ = some (.int .i64 x.a) ∧ w'.cell? ⟨ga, 5, none⟩ = some (.int .i64 x.b) ∧ w'.cell? ⟨ga, 6, none⟩ = some (.int .i64 x.c) ∧ w'.cell? ⟨ga, 7, none⟩ = some (.int .i64 x.d) ∧ w'.cell? ⟨gb, 0, none⟩ = some (.int .i64 y.t) ∧ w'.cell? ⟨gb, 1, none⟩ = some (.bool y.cl) ∧ w'.cell? ⟨gb, 2, none⟩ = some y.v ∧ w'.cell? ⟨gb, 3, none⟩ = some (.int .i64 y.h) ∧ w'.cell? ⟨gb, 4, none⟩ = some (.int .i64 y.a) ∧ w'.cell? ⟨gb, 5, none⟩ = some (.int .i64 y.b) ∧ w'.cell? ⟨gb, 6, none⟩ = some (.int .i64 y.c) ∧ w'.cell? ⟨gb, 7, none⟩ = some (.int .i64 y.d) := by
  have K0 := H0.below h.below H0.lt
  have K1 := H1.below h.below H1.lt
  exact ⟨h, K0.cell 0 _ rfl, K0.cell 1 _ rfl, K0.cell 2 _ rfl, K0.cell 3 _ rfl, K0.cell 4 _ rfl, K0.cell 5 _ rfl, K0.cell 6 _ rfl, K0.cell 7 _ rfl, K1.cell 0 _ rfl, K1.cell 1 _ rfl, K1.cell 2 _ rfl, K1.cell 3 _ rfl, K1.cell 4 _ rfl, K1.cell 5 _ rfl, K1.cell 6 _ rfl, K1.cell 7 _ rfl⟩

set_option maxHeartbeats 2000000 in
theorem p_share (x y : Pk) (t : Int) (w : World) (hx : ∃ ao n cap, x.v = .slice ao n cap) (hy : ∃ ao n cap, y.v = .slice ao n cap) :
    Calls Tryz.prog 77 #[.agg (pkCells x), .agg (pkCells y), .int .i64 t] w fun e w' => e = .returned (.int .i64 (atk [barev x 0, barev y 65536] t 0)) ∧ Below w.heap.size w w' := by
  have BX := Lib.hid (fun w => p_bareKey x 0 w hx)
  have BY := Lib.hid (fun w => p_bareKey y 65536 w hy)
  obtain ⟨B, hB⟩ : ∃ B, w.heap.size = B := ⟨_, rfl⟩
  obtain ⟨W, hW⟩ : ∃ W, (w.alloc (.cells (pkCells x) 43)).alloc (.cells (pkCells y) 43) = W := ⟨_, rfl⟩
  have ha : Has W B (pkCells x) 43 := by rw [← hW]; exact (has_new hB).alloc _
  have hb : Has W (B + 1) (pkCells y) 43 := by rw [← hW]; exact has_new (by simp [hB])
  have hbl : Below B w W := by rw [← hW]; exact ((Below.refl _ _).alloc (by omega) _).alloc (by simp; omega) _
  obtain ⟨A, hA⟩ : ∃ A, atk [barev x 0, barev y 65536] t 0 = A := ⟨_, rfl⟩
  rw [hA]
  have AT := Lib.hid (fun (w : World) (v : Value) (h : Sl w v [barev x 0, barev y 65536]) => hA ▸ k_at h t 0)
  have HB := Lib.hid hB
  have HW := Lib.hid hW
  have X0 := Lib.hid ha
  have X1 := Lib.hid hb
  have HBL := Lib.hid hbl
  have H0 : Hid (Ht W W) := Lib.hid (Ht.refl W)
  have sW := hb.lt
  clear ha hb hbl hW hA
  obtain ⟨xt, xcl, xv, xps, xh, xa, xb, xcc, xd⟩ := x
  obtain ⟨yt, ycl, yv, yps, yh, ya, yb, ycc, yd⟩ := y
  obtain ⟨xo, xn, xc, ex⟩ := hx
  obtain ⟨yo, yn, yc, ey⟩ := hy
  simp only at ex ey
  subst ex ey
  go_enter Tryz.func77, Tryz.ntmps77
  go_wp2_with fail
  rw [HW.out]
  clear hB
  go_region_held3 (fun w' => Ht W w' ∧ w'.cell? ⟨B, 0, none⟩ = some (.int .i64 xt) ∧ w'.cell? ⟨B, 1, none⟩ = some (.bool xcl) ∧ w'.cell? ⟨B, 2, none⟩ = some (.slice xo xn xc) ∧ w'.cell? ⟨B, 3, none⟩ = some (.int .i64 xh) ∧ w'.cell? ⟨B, 4, none⟩ = some (.int .i64 xa) ∧ w'.cell? ⟨B, 5, none⟩ = some (.int .i64 xb) ∧ w'.cell? ⟨B, 6, none⟩ = some (.int .i64 xcc) ∧ w'.cell? ⟨B, 7, none⟩ = some (.int .i64 xd) ∧ w'.cell? ⟨B + 1, 0, none⟩ = some (.int .i64 yt) ∧ w'.cell? ⟨B + 1, 1, none⟩ = some (.bool ycl) ∧ w'.cell? ⟨B + 1, 2, none⟩ = some (.slice yo yn yc) ∧ w'.cell? ⟨B + 1, 3, none⟩ = some (.int .i64 yh) ∧ w'.cell? ⟨B + 1, 4, none⟩ = some (.int .i64 ya) ∧ w'.cell? ⟨B + 1, 5, none⟩ = some (.int .i64 yb) ∧ w'.cell? ⟨B + 1, 6, none⟩ = some (.int .i64 ycc) ∧ w'.cell? ⟨B + 1, 7, none⟩ = some (.int .i64 yd))
    ((go_split_ands; first | exact Ht.keys H0.out.drew X0.out X1.out | exact Ht.keys (by assumption) X0.out X1.out | exact Ht.keys (Ht.alloc h2 _) X0.out X1.out))
    (first
      | (go_at_call 46; refine (AT.out _ _ (sl_lit (g := w2.heap.size) (cs := #[.int .i64 xt, .int .i64 0, .int .i64 xh, .int .i64 xa, .int .i64 xb, .int .i64 xcc, .int .i64 xd, .int .i64 yt, .int .i64 65536, .int .i64 yh, .int .i64 ya, .int .i64 yb, .int .i64 ycc, .int .i64 yd]) (t := 38) 2 2 rfl (by decide) (by decide) has_new0 rfl)).mono ?_; rintro e w3 ⟨rfl, hq3⟩; have h3 := Ht.call (Ht.alloc h2 _) hq3)
      | (have mm := h1; clear mm; go_at_call 100; refine (BY.out _).mono ?_; rintro e w2 ⟨rfl, hq2⟩; have h2 := Ht.call h1 hq2)
      | (go_at_call 100; refine (BX.out _).mono ?_; rintro e w1 ⟨rfl, hq1⟩; have h1 := Ht.call H0.out.drew hq1))
  all_goals
    go_wp2
    go_ret
    exact ⟨rfl, by rw [HB.out]; exact HBL.out.trans ((show Ht W _ by assumption).below.mono (by omega))⟩

end Go.Proofs.YtglbfpjjnboeaaaGreat
