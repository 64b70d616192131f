/- Contract of mutoscoperef8.At: for all keys of paths and ticks what the plain arithmetic says, in memory of its own; of the memory nothing that was there turns. -/
import Derived.Test.YtglbfpjjnboeaaaGreatKA7
import Derived.Test.YtglbfpjjnboeaaaGreatQM
import Derived.Test.YtglbfpjjnboeaaaGreatRK5
namespace Go.Proofs.YtglbfpjjnboeaaaGreat
open Go.RowKit
open M

def ratps (ks : List Pk) (t : Int) : List Pt :=
  if ks.length = 0 then []
  else if find (barep ks) t < 0 then morph (pk ks 0).cl (pk ks 0).ps (pk ks 0).cl (pk ks 0).ps 0
  else if find (barep ks) t = (ks.length : Int) - 1 then morph (pk ks (find (barep ks) t).toNat).cl (pk ks (find (barep ks) t).toNat).ps (pk ks (find (barep ks) t).toNat).cl (pk ks (find (barep ks) t).toNat).ps 0
  else morph (pk ks (find (barep ks) t).toNat).cl (pk ks (find (barep ks) t).toNat).ps (pk ks ((find (barep ks) t).toNat + 1)).cl (pk ks ((find (barep ks) t).toNat + 1)).ps (goes (pk ks (find (barep ks) t).toNat).h (pk ks (find (barep ks) t).toNat).a (pk ks (find (barep ks) t).toNat).b (pk ks (find (barep ks) t).toNat).c (pk ks (find (barep ks) t).toNat).d (prt (pk ks (find (barep ks) t).toNat).t (pk ks ((find (barep ks) t).toNat + 1)).t t))
theorem ratp_cases (ks : List Pk) (t : Int) (h : 0 < ks.length) : (find (barep ks) t = -1 ∧ atcl ks t = (pk ks 0).cl ∧ ratps ks t = morph (pk ks 0).cl (pk ks 0).ps (pk ks 0).cl (pk ks 0).ps 0) ∨
    (∃ i : Nat, find (barep ks) t = i ∧ i + 1 = ks.length ∧ atcl ks t = (pk ks i).cl ∧ ratps ks t = morph (pk ks i).cl (pk ks i).ps (pk ks i).cl (pk ks i).ps 0) ∨
    ∃ i : Nat, find (barep ks) t = i ∧ i + 1 < ks.length ∧ atcl ks t = (pk ks i).cl ∧ ratps ks t = morph (pk ks i).cl (pk ks i).ps (pk ks (i + 1)).cl (pk ks (i + 1)).ps (goes (pk ks i).h (pk ks i).a (pk ks i).b (pk ks i).c (pk ks i).d (prt (pk ks i).t (pk ks (i + 1)).t t)) := by
  have hb := find_bd (barep ks) t
  rw [barep_length] at hb
  have e : ¬ ks.length = 0 := by omega
  unfold atcl ratps
  rw [if_neg e, if_neg e]
  by_cases h0 : find (barep ks) t < 0
  · left
    rw [if_pos h0, if_pos h0]
    exact ⟨by omega, rfl, rfl⟩
  · right
    obtain ⟨i, hi⟩ := Int.eq_ofNat_of_zero_le (show 0 ≤ find (barep ks) t by omega)
    rw [if_neg h0, if_neg h0, hi]
    by_cases h1 : (i : Int) = (ks.length : Int) - 1
    · left
      rw [if_pos h1]
      exact ⟨i, rfl, by omega, rfl, rfl⟩
    · right
      rw [if_neg h1]
      exact ⟨i, rfl, by omega, rfl, rfl⟩

set_option maxHeartbeats 2000000 in
theorem r8_at {v : Value} {ks : List Pk} {w : World} (h : Kl w v ks) (t : Int) : Calls Tryz.prog 49 #[v, .int .i64 t] w (Gives w (atcl ks t) (ratps ks t)) := by
  obtain ⟨B, hB⟩ : ∃ B, w.heap.size = B := ⟨_, rfl⟩
  obtain ⟨W, hW⟩ : ∃ W, w.alloc (.cells #[.bool false, .slice none 0 0] 41) = W := ⟨_, rfl⟩
  have hc : Has W B #[.bool false, .slice none 0 0] 41 := by rw [← hW]; exact has_new hB
  have hbl : Below w.heap.size w W := by rw [← hW]; exact (Below.refl _ _).alloc (Nat.le_refl _) _
  have hs := h.below hbl
  have h0' := h
  rw [hB] at hbl
  obtain ⟨ao, cap, rfl, hf, _⟩ := h
  obtain ⟨N, hN⟩ : ∃ N, ks.length = N := ⟨_, rfl⟩
  rw [hN] at hf hs h0' ⊢
  have HS := Lib.hid hs
  have HS0 := Lib.hid h0'
  have HN := Lib.hid hN
  have HB := Lib.hid hB
  have HW := Lib.hid hW
  have HC := Lib.hid hc
  have HBL := Lib.hid hbl
  have sW : B < W.heap.size := hc.lt
  have fz := has_fro hc
  have v0 := hc.cell 0 _ rfl
  have v1 := hc.cell 1 _ rfl
  clear hs hN hW hc hbl
  by_cases h0 : N = 0
  · subst h0
    have e1 : atcl ks t = false := if_pos HN.out
    have e2 : ratps ks t = [] := if_pos HN.out
    rw [e1, e2]
    have R := Lib.hid (gives_put (w := w) (r := B) (c := false) HB.out (Pown.nil W B) (by simp [Value.ownBlock]) (Nat.le_refl _) HBL.out rfl (.bool false) _ rfl)
    go_enter Tryz.func49, Tryz.ntmps49
    go_upto_region 1 with fail
    rw [HW.out]
    clear hB e1 e2
    go_wp2
    refine bodyPost_ret (v := .agg #[.bool false, .slice none 0 0]) (by simp [results, Tryz.results49, go_sem, v0, v1]) rfl ?_
    exact R.out
  · have o0 := eqz h0
    obtain ⟨g, o, e1, r, l⟩ := HS.out.row (by omega)
    subst e1
    have HR := Lib.hid r
    have oN : (0 : Int) < N := by omega
    go_enter Tryz.func49, Tryz.ntmps49
    go_upto_region 1 with fail
    rw [HW.out]
    clear hB
    go_wp2_with fail
    go_loop [5, 6] (fun k i => ∃ n : Nat, n ≤ N ∧ i = .int .i64 n ∧ k = .int .i64 (findN (barep ks) t n)) (fun _ i => N - (intOf i).toNat)
    case atStart => exact ⟨0, by omega, rfl, rfl⟩
    case round =>
     obtain ⟨n, hnn, rfl, rfl⟩ := hrel
     by_cases hlt : n < N
     · have c0 := r.c0 n (by omega)
       have o1 : (n : Int) < N := by omega
       have hk := ky_barep (ks := ks) (i := n) (by omega)
       clear r v0 v1 fz
       by_cases hc : (pk ks n).t ≤ t
       · have HE := Lib.hid (findN_hit (ks := barep ks) (t := t) (n := n) (by rw [hk]; exact hc))
         clear hk
         go_wp2
         go_round
         case rel => exact ⟨n + 1, by omega, by go_num, by rw [HE.out]⟩
         case measure => simp [intOf]; omega
       · have HE := Lib.hid (findN_miss (ks := barep ks) (t := t) (n := n) (by rw [hk]; exact hc))
         clear hk
         go_wp2
         go_round
         case rel => exact ⟨n + 1, by omega, by go_num, by rw [HE.out]⟩
         case measure => simp [intOf]; omega
     · obtain rfl : n = N := by omega
       have ef : findN (barep ks) t n = find (barep ks) t := by unfold find; rw [barep_length, HN.out]
       rw [ef]
       have on : (n : Int) ≤ n := by omega
       have om : 0 < n := by omega
       have gB : g < B := by
         obtain ⟨g', o', e', r', _⟩ := HS0.out.row (show 0 < n by omega)
         simp at e'
         have := r'.lt (by omega)
         have := HB.out
         omega
       clear ef hnn hlt
       rcases ratp_cases ks t (by omega) with ⟨f1, f2, f3⟩ | ⟨i, f1, f4, f2, f3⟩ | ⟨i, f1, f4, f2, f3⟩
       · rw [f1]
         have sx := r.sl 0 (by omega)
         have cc : ∀ w', Hy W B w' → w'.cell? ⟨g, o + 1, none⟩ = some (.bool (pk ks 0).cl) ∧ w'.cell? ⟨g, o + 2, none⟩ = some (pk ks 0).v := by
           intro w' hw
           have K : ∀ (j : Nat) (u : Value), W.cell? ⟨g, j, none⟩ = some u → w'.cell? ⟨g, j, none⟩ = some u := fun j u hu => hw.grown.cell hu (by simp; omega)
           exact ⟨K _ _ (by have := r.c1 0 (by omega); simpa using this), K _ _ (by have := r.c2 0 (by omega); simpa using this)⟩
         obtain ⟨mo, hmo⟩ : ∃ m, morph (pk ks 0).cl (pk ks 0).ps (pk ks 0).cl (pk ks 0).ps 0 = m := ⟨_, rfl⟩
         rw [hmo] at f3
         have MOR := Lib.hid (fun (w' : World) (h : Ht W w') => hmo ▸ r8_morph (pk ks 0).cl (pk ks 0).cl 0 (sx.ht h) (sx.ht h))
         have E := Lib.hid (And.intro f2 f3)
         have hx := sx.shape
         obtain ⟨x, ex⟩ : ∃ x, pk ks 0 = x := ⟨_, rfl⟩
         rw [ex] at hx cc MOR E
         have SS := Lib.hid cc
         have H0 : Hid (Ht W W) := Lib.hid (Ht.refl W)
         clear r l f1 f2 f3 sx cc hmo ex v0 v1 fz HR HS HS0 gB
         obtain ⟨xt, xcl, xv, xps, xh, xa, xb, xcc, xd⟩ := x
         obtain ⟨xo, xn, xc, ex⟩ := hx
         simp only at ex
         subst ex
         go_wp2_with fail
         go_region_held3 (fun w' => w'.cell? ⟨g, o + 1, none⟩ = some (.bool xcl) ∧ w'.cell? ⟨g, o + 2, none⟩ = some (.slice xo xn xc))
           ((first | exact SS.out _ (Hy.ofHt H0.out.drew) | exact SS.out _ HY3.out | exact SS.out _ (Hy.ofHt h2)))
           (first
             | (go_at_call 82; refine (MOR.out _ H0.out.drew).mono ?_; rintro e w2 ⟨v2, rfl, ho2, hq2⟩; have h2 := Ht.call H0.out.drew hq2; have LT2 := ho2.len; obtain ⟨ao3, cap3, rfl⟩ := LT2; have kc := HC.out.below h2.below HC.out.lt; have u0 := kc.cell 0 _ rfl; have u1 := kc.cell 1 _ rfl; have fz2 := has_fro kc; clear kc; have OW := Lib.hid ho2; have HY3 := Lib.hid (Hy.put2 (B := B) h2 (.bool xcl) (.slice ao3 mo.length cap3)); have S1 := Ht.below H0.out.drew |>.size))
         all_goals
           have R := Lib.hid (gives_put (w := w) (r := B) (c := xcl) HB.out (OW.out.lower (by omega)) (fun e => by have := (OW.out.base _ e).1; omega) (Nat.le_refl _) (HBL.out.trans (h2.below.mono (by omega))) rfl (.bool xcl) _ rfl)
           have U0 := Lib.hid u0
           have U1 := Lib.hid u1
           clear h2 
           go_wp2
           refine bodyPost_ret (v := .agg #[.bool xcl, .slice ao3 mo.length cap3]) (by simp [results, Tryz.results49, go_sem, U0.out, U1.out]) rfl ?_
           rw [E.out.1, E.out.2]
           exact R.out
       · rw [f1]
         have sx := r.sl i (by omega)
         have cc : ∀ w', Hy W B w' → w'.cell? ⟨g, o + i * 8 + 1, none⟩ = some (.bool (pk ks i).cl) ∧ w'.cell? ⟨g, o + i * 8 + 2, none⟩ = some (pk ks i).v := by
           intro w' hw
           have K : ∀ (j : Nat) (u : Value), W.cell? ⟨g, j, none⟩ = some u → w'.cell? ⟨g, j, none⟩ = some u := fun j u hu => hw.grown.cell hu (by simp; omega)
           exact ⟨K _ _ (r.c1 i (by omega)), K _ _ (r.c2 i (by omega))⟩
         obtain ⟨mo, hmo⟩ : ∃ m, morph (pk ks i).cl (pk ks i).ps (pk ks i).cl (pk ks i).ps 0 = m := ⟨_, rfl⟩
         rw [hmo] at f3
         have MOR := Lib.hid (fun (w' : World) (h : Ht W w') => hmo ▸ r8_morph (pk ks i).cl (pk ks i).cl 0 (sx.ht h) (sx.ht h))
         have E := Lib.hid (And.intro f2 f3)
         have hx := sx.shape
         obtain ⟨x, ex⟩ : ∃ x, pk ks i = x := ⟨_, rfl⟩
         rw [ex] at hx cc MOR E
         have SS := Lib.hid cc
         have o1 : (i : Int) < n := by omega
         have o2 : (n : Int) - 1 = i := by omega
         have H0 : Hid (Ht W W) := Lib.hid (Ht.refl W)
         clear r l f1 f2 f3 sx cc hmo ex v0 v1 fz HR HS HS0 gB f4
         obtain ⟨xt, xcl, xv, xps, xh, xa, xb, xcc, xd⟩ := x
         obtain ⟨xo, xn, xc, ex⟩ := hx
         simp only at ex
         subst ex
         go_wp2_with fail
         go_region_held3 (fun w' => w'.cell? ⟨g, o + i * 8 + 1, none⟩ = some (.bool xcl) ∧ w'.cell? ⟨g, o + i * 8 + 2, none⟩ = some (.slice xo xn xc))
           ((first | exact SS.out _ (Hy.ofHt H0.out.drew) | exact SS.out _ HY3.out | exact SS.out _ (Hy.ofHt h2)))
           (first
             | (go_at_call 82; refine (MOR.out _ H0.out.drew).mono ?_; rintro e w2 ⟨v2, rfl, ho2, hq2⟩; have h2 := Ht.call H0.out.drew hq2; have LT2 := ho2.len; obtain ⟨ao3, cap3, rfl⟩ := LT2; have kc := HC.out.below h2.below HC.out.lt; have u0 := kc.cell 0 _ rfl; have u1 := kc.cell 1 _ rfl; have fz2 := has_fro kc; clear kc; have OW := Lib.hid ho2; have HY3 := Lib.hid (Hy.put2 (B := B) h2 (.bool xcl) (.slice ao3 mo.length cap3)); have S1 := Ht.below H0.out.drew |>.size))
         all_goals
           have R := Lib.hid (gives_put (w := w) (r := B) (c := xcl) HB.out (OW.out.lower (by omega)) (fun e => by have := (OW.out.base _ e).1; omega) (Nat.le_refl _) (HBL.out.trans (h2.below.mono (by omega))) rfl (.bool xcl) _ rfl)
           have U0 := Lib.hid u0
           have U1 := Lib.hid u1
           clear h2 
           go_wp2
           refine bodyPost_ret (v := .agg #[.bool xcl, .slice ao3 mo.length cap3]) (by simp [results, Tryz.results49, go_sem, U0.out, U1.out]) rfl ?_
           rw [E.out.1, E.out.2]
           exact R.out
       · rw [f1]
         have sx := r.sl i (by omega)
         have sy := r.sl (i + 1) (by omega)
         have cc : ∀ w', Hy W B w' → w'.cell? ⟨g, o + i * 8, none⟩ = some (.int .i64 (pk ks i).t) ∧ w'.cell? ⟨g, o + i * 8 + 1, none⟩ = some (.bool (pk ks i).cl) ∧ w'.cell? ⟨g, o + i * 8 + 2, none⟩ = some (pk ks i).v ∧ w'.cell? ⟨g, o + i * 8 + 3, none⟩ = some (.int .i64 (pk ks i).h) ∧ w'.cell? ⟨g, o + i * 8 + 4, none⟩ = some (.int .i64 (pk ks i).a) ∧ w'.cell? ⟨g, o + i * 8 + 5, none⟩ = some (.int .i64 (pk ks i).b) ∧ w'.cell? ⟨g, o + i * 8 + 6, none⟩ = some (.int .i64 (pk ks i).c) ∧ w'.cell? ⟨g, o + i * 8 + 7, none⟩ = some (.int .i64 (pk ks i).d) ∧ w'.cell? ⟨g, o + (i + 1) * 8, none⟩ = some (.int .i64 (pk ks (i + 1)).t) ∧ w'.cell? ⟨g, o + (i + 1) * 8 + 1, none⟩ = some (.bool (pk ks (i + 1)).cl) ∧ w'.cell? ⟨g, o + (i + 1) * 8 + 2, none⟩ = some (pk ks (i + 1)).v ∧ w'.cell? ⟨g, o + (i + 1) * 8 + 3, none⟩ = some (.int .i64 (pk ks (i + 1)).h) ∧ w'.cell? ⟨g, o + (i + 1) * 8 + 4, none⟩ = some (.int .i64 (pk ks (i + 1)).a) ∧ w'.cell? ⟨g, o + (i + 1) * 8 + 5, none⟩ = some (.int .i64 (pk ks (i + 1)).b) ∧ w'.cell? ⟨g, o + (i + 1) * 8 + 6, none⟩ = some (.int .i64 (pk ks (i + 1)).c) ∧ w'.cell? ⟨g, o + (i + 1) * 8 + 7, none⟩ = some (.int .i64 (pk ks (i + 1)).d) := by
           intro w' hw
           have K : ∀ (j : Nat) (u : Value), W.cell? ⟨g, j, none⟩ = some u → w'.cell? ⟨g, j, none⟩ = some u := fun j u hu => hw.grown.cell hu (by simp; omega)
           exact ⟨K _ _ (r.c0 i (by omega)), K _ _ (r.c1 i (by omega)), K _ _ (r.c2 i (by omega)), K _ _ (r.c3 i (by omega)), K _ _ (r.c4 i (by omega)), K _ _ (r.c5 i (by omega)), K _ _ (r.c6 i (by omega)), K _ _ (r.c7 i (by omega)), K _ _ (r.c0 (i + 1) (by omega)), K _ _ (r.c1 (i + 1) (by omega)), K _ _ (r.c2 (i + 1) (by omega)), K _ _ (r.c3 (i + 1) (by omega)), K _ _ (r.c4 (i + 1) (by omega)), K _ _ (r.c5 (i + 1) (by omega)), K _ _ (r.c6 (i + 1) (by omega)), K _ _ (r.c7 (i + 1) (by omega))⟩
         obtain ⟨P, hP⟩ : ∃ A, prt (pk ks i).t (pk ks (i + 1)).t t = A := ⟨_, rfl⟩
         obtain ⟨A, hA⟩ : ∃ A, goes (pk ks i).h (pk ks i).a (pk ks i).b (pk ks i).c (pk ks i).d P = A := ⟨_, rfl⟩
         obtain ⟨mo, hmo⟩ : ∃ m, morph (pk ks i).cl (pk ks i).ps (pk ks (i + 1)).cl (pk ks (i + 1)).ps A = m := ⟨_, rfl⟩
         rw [hP, hA, hmo] at f3
         have PRT := Lib.hid (fun w => hP ▸ r5_part (pk ks i).t (pk ks (i + 1)).t t w)
         have GOS := Lib.hid (fun w => hA ▸ r5_goes (pk ks i).h (pk ks i).a (pk ks i).b (pk ks i).c (pk ks i).d P w)
         have MOR := Lib.hid (fun (w' : World) (h : Ht W w') => hmo ▸ r8_morph (pk ks i).cl (pk ks (i + 1)).cl A (sx.ht h) (sy.ht h))
         have E := Lib.hid (And.intro f2 f3)
         have hx := sx.shape
         have hy := sy.shape
         obtain ⟨x, ex⟩ : ∃ x, pk ks i = x := ⟨_, rfl⟩
         obtain ⟨y, ey⟩ : ∃ x, pk ks (i + 1) = x := ⟨_, rfl⟩
         rw [ex] at hx cc PRT GOS MOR E
         rw [ey] at hy cc PRT MOR
         have SS := Lib.hid cc
         have o1 : (i : Int) < n := by omega
         have o2 : (i : Int) + 1 < n := by omega
         have o3 : ¬ ((i : Int) = n - 1) := by omega
         have o4 : IntKind.i64.wrap ((i : Int) + 1) = (i : Int) + 1 := IntWalk.i64_in _ (by omega)
         have o5 : (0 : Int) ≤ (i : Int) + 1 := by omega
         have o6 : (0 : Int) ≤ (i : Int) := by omega
         have H0 : Hid (Ht W W) := Lib.hid (Ht.refl W)
         clear r l f1 f2 f3 f4 sx sy cc hP hA hmo ex ey v0 v1 fz HR HS HS0 gB
         obtain ⟨xt, xcl, xv, xps, xh, xa, xb, xcc, xd⟩ := x
         obtain ⟨yt, ycl, yv, yps, yh, ya, yb, ycc, yd⟩ := y
         obtain ⟨xo, xn, xc, ex⟩ := hx
         obtain ⟨yo, yn, yc, ey⟩ := hy
         simp only at ex ey
         subst ex ey
         go_wp2_with fail
         go_region_held3 (fun w' => w'.cell? ⟨g, o + i * 8, none⟩ = some (.int .i64 xt) ∧ w'.cell? ⟨g, o + i * 8 + 1, none⟩ = some (.bool xcl) ∧ w'.cell? ⟨g, o + i * 8 + 2, none⟩ = some (.slice xo xn xc) ∧ w'.cell? ⟨g, o + i * 8 + 3, none⟩ = some (.int .i64 xh) ∧ w'.cell? ⟨g, o + i * 8 + 4, none⟩ = some (.int .i64 xa) ∧ w'.cell? ⟨g, o + i * 8 + 5, none⟩ = some (.int .i64 xb) ∧ w'.cell? ⟨g, o + i * 8 + 6, none⟩ = some (.int .i64 xcc) ∧ w'.cell? ⟨g, o + i * 8 + 7, none⟩ = some (.int .i64 xd) ∧ w'.cell? ⟨g, o + (i + 1) * 8, none⟩ = some (.int .i64 yt) ∧ w'.cell? ⟨g, o + (i + 1) * 8 + 1, none⟩ = some (.bool ycl) ∧ w'.cell? ⟨g, o + (i + 1) * 8 + 2, none⟩ = some (.slice yo yn yc) ∧ w'.cell? ⟨g, o + (i + 1) * 8 + 3, none⟩ = some (.int .i64 yh) ∧ w'.cell? ⟨g, o + (i + 1) * 8 + 4, none⟩ = some (.int .i64 ya) ∧ w'.cell? ⟨g, o + (i + 1) * 8 + 5, none⟩ = some (.int .i64 yb) ∧ w'.cell? ⟨g, o + (i + 1) * 8 + 6, none⟩ = some (.int .i64 ycc) ∧ w'.cell? ⟨g, o + (i + 1) * 8 + 7, none⟩ = some (.int .i64 yd))
           ((first | exact SS.out _ (Hy.ofHt H0.out.drew) | exact SS.out _ HY3.out | exact SS.out _ (Hy.ofHt h2) | exact SS.out _ (Hy.ofHt h1) | exact SS.out _ (Hy.ofHt h0a)))
           (first
             | (go_at_call 82; refine (MOR.out _ h1).mono ?_; rintro e w2 ⟨v2, rfl, ho2, hq2⟩; have h2 := Ht.call h1 hq2; have LT2 := ho2.len; obtain ⟨ao3, cap3, rfl⟩ := LT2; have kc := HC.out.below h2.below HC.out.lt; have u0 := kc.cell 0 _ rfl; have u1 := kc.cell 1 _ rfl; have fz2 := has_fro kc; clear kc; have OW := Lib.hid ho2; have HY3 := Lib.hid (Hy.put2 (B := B) h2 (.bool xcl) (.slice ao3 mo.length cap3)); have S1 := Ht.below h1 |>.size)
             | (go_at_call 80; refine (GOS.out _).mono ?_; rintro e w1 ⟨rfl, hq1⟩; have h1 := Ht.call h0a hq1)
             | (go_at_call 81; refine (PRT.out _).mono ?_; rintro e w0 ⟨rfl, hq0⟩; have h0a : Ht W w0 := hq0 ▸ H0.out.drew))
         all_goals
           have R := Lib.hid (gives_put (w := w) (r := B) (c := xcl) HB.out (OW.out.lower (by omega)) (fun e => by have := (OW.out.base _ e).1; omega) (Nat.le_refl _) (HBL.out.trans (h2.below.mono (by omega))) rfl (.bool xcl) _ rfl)
           have U0 := Lib.hid u0
           have U1 := Lib.hid u1
           clear h2 h1 h0a
           go_wp2
           refine bodyPost_ret (v := .agg #[.bool xcl, .slice ao3 mo.length cap3]) (by simp [results, Tryz.results49, go_sem, U0.out, U1.out]) rfl ?_
           rw [E.out.1, E.out.2]
           exact R.out

end Go.Proofs.YtglbfpjjnboeaaaGreat
