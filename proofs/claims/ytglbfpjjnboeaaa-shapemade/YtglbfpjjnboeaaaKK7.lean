/- Contracts of path.Keys and of the reference's Keys on keys of paths as a tape makes them: both say whether all paths fit the first; of the memory nothing that was there turns. -/
import Derived.Test.YtglbfpjjnboeaaaRA7
import Derived.Test.YtglbfpjjnboeaaaQ8
import Derived.Test.YtglbfpjjnboeaaaR5
import Derived.Test.YtglbfpjjnboeaaaKA5
import Derived.Test.YtglbfpjjnboeaaaJ
namespace Go.Proofs.Ytglbfpjjnboeaaa
open Go.RowKit
open M

/-- Keys of paths as a tape makes them. -/
structure Mkd (ks : List Pk) : Prop where
  few : ks.length ≤ 4
  how : ∀ i, i < ks.length → (pk ks i).h = 0 ∨ (pk ks i).h = 1
  plain : ∀ i, i < ks.length → (pk ks i).a = 0 ∧ (pk ks i).b = 0 ∧ (pk ks i).c = 0 ∧ (pk ks i).d = 0
  tick : ∀ i, i < ks.length → 0 ≤ (pk ks i).t ∧ (pk ks i).t ≤ 100
  up : ∀ i, i + 1 < ks.length → (pk ks i).t < (pk ks (i + 1)).t
  small : ∀ i, i < ks.length → Small (pk ks i).ps
  form : ∀ i, i < ks.length → ∃ n, 1 ≤ n ∧ n ≤ 6 ∧ (pk ks i).ps.length = 3 * n + 1
def fitN (ks : List Pk) : Nat → Bool
  | 0 => true
  | n + 1 => fitN ks n && fits (pk ks 0).cl (pk ks 0).ps (pk ks n).cl (pk ks n).ps
theorem fitN_off {ks : List Pk} {n i : Nat} (hi : i < n) (h : fits (pk ks 0).cl (pk ks 0).ps (pk ks i).cl (pk ks i).ps = false) : fitN ks n = false := by
  induction n with
  | zero => omega
  | succ n ih =>
    unfold fitN
    by_cases e : i = n
    · subst e; rw [h]; simp
    · rw [ih (by omega)]; rfl
theorem Mkd.okP {ks : List Pk} (h : Mkd ks) {i : Nat} (hi : i < ks.length) : okP (pk ks i).cl (pk ks i).ps = true := by
  obtain ⟨n, n1, n2, hl⟩ := h.form i hi
  rw [okP_pos (by omega), (h.small i hi).near]
  simp [okLen]
  omega
theorem Mkd.pos {ks : List Pk} (h : Mkd ks) {i : Nat} (hi : i < ks.length) : 0 < (pk ks i).ps.length ∧ (pk ks i).ps.length ≤ 19 := by
  obtain ⟨n, n1, n2, hl⟩ := h.form i hi
  omega
theorem Mkd.okHow {ks : List Pk} (h : Mkd ks) {i : Nat} (hi : i < ks.length) : okHow (pk ks i).h (pk ks i).a (pk ks i).b (pk ks i).c (pk ks i).d = true := by
  obtain ⟨a, b, c, d⟩ := h.plain i hi
  unfold M.okHow
  rw [if_pos (h.how i hi)]
  simp [a, b, c, d]
theorem Mkd.rightN {ks : List Pk} (h : Mkd ks) : ∀ n, n ≤ ks.length → rightN (barep ks) n = true
  | 0, _ => rfl
  | n + 1, hn => by
    have hi : n < ks.length := by omega
    have t1 := h.tick n hi
    unfold M.rightN
    rw [h.rightN n (by omega), ky_barep hi]
    have e : okK (barev (pk ks n) 0) = true := by
      unfold okK barev okIn
      simp only [h.okHow hi]
      simp
      omega
    rw [e]
    by_cases e0 : n = 0
    · simp [e0]
    · rw [ky_barep (by omega)]
      have := h.up (n - 1) (by omega)
      rw [show n - 1 + 1 = n by omega] at this
      have e2 : decide ((barev (pk ks (n - 1)) 0).t < (barev (pk ks n) 0).t) = true := decide_eq_true this
      rw [e2]
      simp
theorem Mkd.right {ks : List Pk} (h : Mkd ks) : right (barep ks) = true := by
  unfold M.right
  rw [barep_length, h.rightN _ (Nat.le_refl _)]
  have := h.few
  simp
  omega
theorem fits_comm (c d : Bool) (ps qs : List Pt) : fits c ps d qs = fits d qs c ps := by
  unfold fits
  rw [show (c == d) = (d == c) by cases c <;> cases d <;> rfl, show decide (ps.length = qs.length) = decide (qs.length = ps.length) by simp [eq_comm]]
theorem Ht.four {W w' : World} {ga g o : Nat} {x : Pk} {ks : List Pk} {t : TypeId} (h : Ht W w') (H0 : Has W ga (pkCells x) t) (r : Krow W g o ks) (hn : 0 < ks.length) :
    Ht W w' ∧ w'.cell? ⟨ga, 1, none⟩ = some (.bool x.cl) ∧ w'.cell? ⟨ga, 2, none⟩ = some x.v ∧ w'.cell? ⟨g, o + 1, none⟩ = some (.bool (pk ks 0).cl) ∧ w'.cell? ⟨g, o + 2, none⟩ = some (pk ks 0).v := by
  have K0 := H0.below h.below H0.lt
  have r' := r.below h.below (r.lt hn) (Nat.le_refl _)
  have a := r'.c1 0 hn
  have b := r'.c2 0 hn
  simp only [Nat.zero_mul, Nat.add_zero] at a b
  exact ⟨h, K0.cell 1 _ rfl, K0.cell 2 _ rfl, a, b⟩

set_option maxHeartbeats 2000000 in
theorem p_keys {v : Value} {ks : List Pk} {w : World} (h : Kl w v ks) (hm : Mkd ks) :
    Calls Try.prog 45 #[v] w fun e w' => e = .returned (.bool (fitN ks ks.length)) ∧ Below w.heap.size w w' := by
  have BK := Lib.hid (p_bareKeys h)
  have hs := h
  obtain ⟨ao, cap, rfl, hf, _⟩ := h
  obtain ⟨N, hN⟩ : ∃ N, ks.length = N := ⟨_, rfl⟩
  have f4 : N ≤ 4 := by rw [← hN]; exact hm.few
  rw [hN] at hf hs BK ⊢
  have HS := Lib.hid hs
  have HN := Lib.hid hN
  have HM := Lib.hid hm
  obtain ⟨B, hB⟩ : ∃ B, w.heap.size = B := ⟨_, rfl⟩
  have HB := Lib.hid hB
  clear hs hN hm hB hf
  have o0 : (N : Int) ≤ 32 := by omega
  go_enter Try.func45, Try.ntmps45
  go_wp2_with fail
  refine BK.out.mono ?_
  rintro e w1 ⟨vb, rfl, hob, hq1⟩
  have S1 := Lib.hid (hob.sl (by rw [barep_length, HN.out]; omega))
  have Q1 : Hid (Below B w w1) := Lib.hid (by rw [← HB.out]; exact hq1)
  have z1 : Hid (B ≤ w1.heap.size) := Lib.hid (by have := hq1.size; have := HB.out; omega)
  clear hob hq1 BK
  go_wp2_with fail
  refine (k_right S1.out).mono ?_
  rw [HM.out.right]
  rintro e w2 ⟨rfl, hq2⟩
  have Q2 := Lib.hid (Q1.out.trans (hq2.mono z1.out))
  have z2 : Hid (B ≤ w2.heap.size) := Lib.hid (by have := hq2.size; have := z1.out; omega)
  clear hq2 S1 Q1 z1
  go_wp2_with fail
  go_loopw [4, 16] (fun _ i wr => ∃ n : Nat, n ≤ N ∧ i = .int .i64 n ∧ fitN ks n = true ∧ Below B w wr) (fun _ i _ => N - (intOf i).toNat)
  case atStart => exact ⟨0, by omega, rfl, rfl, Q2.out⟩
  case round =>
    clear Q2 z2
    obtain ⟨n, hn, rfl, hst, hb⟩ := hrel
    have HST := Lib.hid hst
    have HBD := Lib.hid hb
    have sz : B ≤ wr.heap.size := by have := hb.size; have := HB.out; omega
    clear hst
    by_cases hlt : n < N
    · obtain ⟨g, o, e1, r0, l0⟩ := HS.out.row (by omega)
      have rr := r0.below hb (by have := r0.lt (by omega); have := HB.out; omega) (by have := HB.out; omega)
      subst e1
      have c0 := rr.c0 n (by omega)
      have c1 := rr.c1 n (by omega)
      have c2 := rr.c2 n (by omega)
      have c3 := rr.c3 n (by omega)
      have c4 := rr.c4 n (by omega)
      have c5 := rr.c5 n (by omega)
      have c6 := rr.c6 n (by omega)
      have c7 := rr.c7 n (by omega)
      have sx := rr.sl n (by omega)
      have s0 := rr.sl 0 (by omega)
      have ok := HM.out.okP (i := n) (by omega)
      have ne := (HM.out.pos (i := n) (by omega)).1
      obtain ⟨f, hf⟩ : ∃ f, fits (pk ks 0).cl (pk ks 0).ps (pk ks n).cl (pk ks n).ps = f := ⟨_, rfl⟩
      obtain ⟨x, ex⟩ : ∃ x, pk ks n = x := ⟨_, rfl⟩
      obtain ⟨V, hV⟩ : ∃ V, wr.alloc (.cells (pkCells x) 57) = V := ⟨_, rfl⟩
      have bV : Below wr.heap.size wr V := by rw [← hV]; exact (Below.refl _ _).alloc (Nat.le_refl _) _
      have KX : Has V wr.heap.size (pkCells x) 57 := by rw [← hV]; exact has_new rfl
      have rV := rr.below bV (rr.lt (by omega)) (Nat.le_refl _)
      rw [ex] at c0 c1 c2 c3 c4 c5 c6 c7 sx ok ne hf
      have FF := Lib.hid (by rw [← ex] at hf; exact hf)
      have EM : Hid (∀ w', Ht V w' → Calls Try.prog 61 #[.agg #[.bool x.cl, x.v]] w' fun e w'' => e = .returned (.bool false) ∧ Below w'.heap.size w' w'') := Lib.hid (fun w' h => by have := p_empty x.cl ((sx.below bV (Nat.le_refl _)).ht h); rw [decide_eq_false (by omega)] at this; exact this)
      have RT : Hid (∀ w', Ht V w' → Calls Try.prog 62 #[.agg #[.bool x.cl, x.v]] w' fun e w'' => e = .returned (.bool true) ∧ Below w'.heap.size w' w'') := Lib.hid (fun w' h => by have := p_right x.cl ((sx.below bV (Nat.le_refl _)).ht h); rw [ok] at this; exact this)
      have FT : Hid (∀ w', Ht V w' → Calls Try.prog 56 #[.agg #[.bool (pk ks 0).cl, (pk ks 0).v], .agg #[.bool x.cl, x.v]] w' fun e w'' => e = .returned (.bool f) ∧ Below w'.heap.size w' w'') := Lib.hid (fun w' h => by have := p_fits (pk ks 0).cl x.cl ((s0.below bV (Nat.le_refl _)).ht h) ((sx.below bV (Nat.le_refl _)).ht h); rw [hf] at this; exact this)
      have SS := Lib.hid (fun (w' : World) (h : Ht V w') => h.four KX rV (show 0 < ks.length by omega))
      have hx := sx.shape
      have h0 := s0.shape
      have HV := Lib.hid hV
      have o1 : (n : Int) < N := by omega
      have oz : (0 : Int) < N := by omega
      have oy : 0 < N := by omega
      have H0 : Hid (Ht V V) := Lib.hid (Ht.refl V)
      have BV : Hid (Below B w V) := Lib.hid (HBD.out.trans (bV.mono sz))
      have zV : Hid (B ≤ V.heap.size) := Lib.hid (by have := bV.size; omega)
      obtain ⟨xt, xcl, xv, xps, xh, xa, xb, xcc, xd⟩ := x
      obtain ⟨xo, xn, xc, e1⟩ := hx
      obtain ⟨y, ey⟩ : ∃ x, pk ks 0 = x := ⟨_, rfl⟩
      rw [ey] at h0 SS FT
      obtain ⟨yt, ycl, yv, yps, yh, ya, yb, ycc, yd⟩ := y
      obtain ⟨yo, yn, yc, e2⟩ := h0
      simp only at e1 e2
      subst e1 e2
      simp only at c0 c1 c2 c3 c4 c5 c6 c7
      clear rr r0 l0 hb sx s0 ok ne hf ex ey hV bV KX rV HS
      cases f
      · have EF := Lib.hid (fitN_off hlt FF.out)
        go_upto_region 6 with fail
        rw [HV.out]
        clear c0 c1 c2 c3 c4 c5 c6 c7
        go_region_held3 (fun w' => Ht V w' ∧ w'.cell? ⟨wr.heap.size, 1, none⟩ = some (.bool xcl) ∧ w'.cell? ⟨wr.heap.size, 2, none⟩ = some (.slice xo xn xc) ∧ w'.cell? ⟨g, o + 1, none⟩ = some (.bool ycl) ∧ w'.cell? ⟨g, o + 2, none⟩ = some (.slice yo yn yc))
          ((go_split_ands; first | exact SS.out _ H0.out.drew | exact SS.out _ (by assumption)))
          (first
            | (go_at_call 56; refine (FT.out _ h2).mono ?_; rintro e w3 ⟨rfl, hq3⟩; have h3 := Ht.call h2 hq3)
            | (go_at_call 62; refine (RT.out _ h1).mono ?_; rintro e w2' ⟨rfl, hq2⟩; have h2 := Ht.call h1 hq2)
            | (go_at_call 61; refine (EM.out _ H0.out.drew).mono ?_; rintro e w1' ⟨rfl, hq1⟩; have h1 := Ht.call H0.out.drew hq1))
        all_goals
          have R := Lib.hid (BV.out.trans (h3.below.mono zV.out))
          clear h1 h2 h3
          go_wp2
          go_ret
          exact ⟨by rw [EF.out]; rfl, by rw [HB.out]; exact R.out⟩
      · go_upto_region 6 with fail
        rw [HV.out]
        clear c0 c1 c2 c3 c4 c5 c6 c7
        go_region_held3 (fun w' => Ht V w' ∧ w'.cell? ⟨wr.heap.size, 1, none⟩ = some (.bool xcl) ∧ w'.cell? ⟨wr.heap.size, 2, none⟩ = some (.slice xo xn xc) ∧ w'.cell? ⟨g, o + 1, none⟩ = some (.bool ycl) ∧ w'.cell? ⟨g, o + 2, none⟩ = some (.slice yo yn yc))
          ((go_split_ands; first | exact SS.out _ H0.out.drew | exact SS.out _ (by assumption)))
          (first
            | (go_at_call 56; refine (FT.out _ h2).mono ?_; rintro e w3 ⟨rfl, hq3⟩; have h3 := Ht.call h2 hq3)
            | (go_at_call 62; refine (RT.out _ h1).mono ?_; rintro e w2' ⟨rfl, hq2⟩; have h2 := Ht.call h1 hq2)
            | (go_at_call 61; refine (EM.out _ H0.out.drew).mono ?_; rintro e w1' ⟨rfl, hq1⟩; have h1 := Ht.call H0.out.drew hq1))
        all_goals
          have R := Lib.hid (BV.out.trans (h3.below.mono zV.out))
          clear h1 h2 h3
          go_wp2
          go_roundw
          case rel => exact ⟨n + 1, by omega, by go_num, by unfold fitN; rw [HST.out, FF.out]; rfl, R.out⟩
          case measure => simp [intOf]; omega
    · obtain rfl : n = N := by omega
      have o1 : (n : Int) ≤ n := by omega
      clear hb
      go_wp2
      go_ret
      exact ⟨by rw [HST.out]; rfl, by rw [HB.out]; exact HBD.out⟩

end Go.Proofs.Ytglbfpjjnboeaaa
