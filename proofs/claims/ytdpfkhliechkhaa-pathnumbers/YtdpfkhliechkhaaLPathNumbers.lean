/- PathNumbers of the statements: whatever the numbers are, the call returns true and each argument reads as it did; no condition. -/
import Derived.Test.YtdpfkhliechkhaaRA7
import Derived.Test.YtdpfkhliechkhaaQ8
import Derived.Test.YtdpfkhliechkhaaRR5
import Derived.Test.YtdpfkhliechkhaaTB7
import Derived.Test.YtdpfkhliechkhaaS7
import Derived.Test.YtdpfkhliechkhaaRows
import Derived.WalkKit
import Derived.ProofKit
import Derived.OpenShut
namespace Go.Proofs.Ytdpfkhliechkhaa
open Go.RowKit
open M

/-- Keys of paths as a tape makes them. -/
structure Mkd (ks : List Pk) : Prop where
  few : ks.length ≤ 4
  how : ∀ i, i < ks.length → (pk ks i).h = 0 ∨ (pk ks i).h = 1
  plain : ∀ i, i < ks.length → (pk ks i).a = 0 ∧ (pk ks i).b = 0 ∧ (pk ks i).c = 0 ∧ (pk ks i).d = 0
  tick : ∀ i, i < ks.length → 0 ≤ (pk ks i).t ∧ (pk ks i).t ≤ 100
  up : ∀ i, i + 1 < ks.length → (pk ks i).t < (pk ks (i + 1)).t
  small : ∀ i, i < ks.length → Small (pk ks i).ps
  form : ∀ i, i < ks.length → ∃ n, 1 ≤ n ∧ n ≤ 6 ∧ (pk ks i).ps.length = 3 * n + 1
def fitN (ks : List Pk) : Nat → Bool
  | 0 => true
  | n + 1 => fitN ks n && fits (pk ks 0).cl (pk ks 0).ps (pk ks n).cl (pk ks n).ps
theorem fitN_off {ks : List Pk} {n i : Nat} (hi : i < n) (h : fits (pk ks 0).cl (pk ks 0).ps (pk ks i).cl (pk ks i).ps = false) : fitN ks n = false := by
  induction n with
  | zero => omega
  | succ n ih =>
    unfold fitN
    by_cases e : i = n
    · subst e; rw [h]; simp
    · rw [ih (by omega)]; rfl
theorem Mkd.okP {ks : List Pk} (h : Mkd ks) {i : Nat} (hi : i < ks.length) : okP (pk ks i).cl (pk ks i).ps = true := by
  obtain ⟨n, n1, n2, hl⟩ := h.form i hi
  rw [okP_pos (by omega), (h.small i hi).near]
  simp [okLen]
  omega
theorem Mkd.pos {ks : List Pk} (h : Mkd ks) {i : Nat} (hi : i < ks.length) : 0 < (pk ks i).ps.length ∧ (pk ks i).ps.length ≤ 19 := by
  obtain ⟨n, n1, n2, hl⟩ := h.form i hi
  omega
theorem Mkd.okHow {ks : List Pk} (h : Mkd ks) {i : Nat} (hi : i < ks.length) : okHow (pk ks i).h (pk ks i).a (pk ks i).b (pk ks i).c (pk ks i).d = true := by
  obtain ⟨a, b, c, d⟩ := h.plain i hi
  unfold M.okHow
  rw [if_pos (h.how i hi)]
  simp [a, b, c, d]
theorem Mkd.rightN {ks : List Pk} (h : Mkd ks) : ∀ n, n ≤ ks.length → rightN (barep ks) n = true
  | 0, _ => rfl
  | n + 1, hn => by
    have hi : n < ks.length := by omega
    have t1 := h.tick n hi
    unfold M.rightN
    rw [h.rightN n (by omega), ky_barep hi]
    have e : okK (barev (pk ks n) 0) = true := by
      unfold okK barev okIn
      simp only [h.okHow hi]
      simp
      omega
    rw [e]
    by_cases e0 : n = 0
    · simp [e0]
    · rw [ky_barep (by omega)]
      have := h.up (n - 1) (by omega)
      rw [show n - 1 + 1 = n by omega] at this
      have e2 : decide ((barev (pk ks (n - 1)) 0).t < (barev (pk ks n) 0).t) = true := decide_eq_true this
      rw [e2]
      simp
theorem Mkd.right {ks : List Pk} (h : Mkd ks) : right (barep ks) = true := by
  unfold M.right
  rw [barep_length, h.rightN _ (Nat.le_refl _)]
  have := h.few
  simp
  omega
theorem fits_comm (c d : Bool) (ps qs : List Pt) : fits c ps d qs = fits d qs c ps := by
  unfold fits
  rw [show (c == d) = (d == c) by cases c <;> cases d <;> rfl, show decide (ps.length = qs.length) = decide (qs.length = ps.length) by simp [eq_comm]]
theorem Ht.four {W w' : World} {ga g o : Nat} {x : Pk} {ks : List Pk} {t : TypeId} (h : Ht W w') (H0 : Has W ga (pkCells x) t) (r : Krow W g o ks) (hn : 0 < ks.length) :
    Ht W w' ∧ w'.cell? ⟨ga, 1, none⟩ = some (.bool x.cl) ∧ w'.cell? ⟨ga, 2, none⟩ = some x.v ∧ w'.cell? ⟨g, o + 1, none⟩ = some (.bool (pk ks 0).cl) ∧ w'.cell? ⟨g, o + 2, none⟩ = some (pk ks 0).v := by
  have K0 := H0.below h.below H0.lt
  have r' := r.below h.below (r.lt hn) (Nat.le_refl _)
  have a := r'.c1 0 hn
  have b := r'.c2 0 hn
  simp only [Nat.zero_mul, Nat.add_zero] at a b
  exact ⟨h, K0.cell 1 _ rfl, K0.cell 2 _ rfl, a, b⟩

set_option maxHeartbeats 2000000 in
theorem p_keys {v : Value} {ks : List Pk} {w : World} (h : Kl w v ks) (hm : Mkd ks) :
    Calls Try.prog 28 #[v] w fun e w' => e = .returned (.bool (fitN ks ks.length)) ∧ Below w.heap.size w w' := by
  have BK := Lib.hid (p_bareKeys h)
  have hs := h
  obtain ⟨ao, cap, rfl, hf, _⟩ := h
  obtain ⟨N, hN⟩ : ∃ N, ks.length = N := ⟨_, rfl⟩
  have f4 : N ≤ 4 := by rw [← hN]; exact hm.few
  rw [hN] at hf hs BK ⊢
  have HS := Lib.hid hs
  have HN := Lib.hid hN
  have HM := Lib.hid hm
  obtain ⟨B, hB⟩ : ∃ B, w.heap.size = B := ⟨_, rfl⟩
  have HB := Lib.hid hB
  clear hs hN hm hB hf
  have o0 : (N : Int) ≤ 32 := by omega
  go_enter Try.func28, Try.ntmps28
  go_wp2_with fail
  refine BK.out.mono ?_
  rintro e w1 ⟨vb, rfl, hob, hq1⟩
  have S1 := Lib.hid (hob.sl (by rw [barep_length, HN.out]; omega))
  have Q1 : Hid (Below B w w1) := Lib.hid (by rw [← HB.out]; exact hq1)
  have z1 : Hid (B ≤ w1.heap.size) := Lib.hid (by have := hq1.size; have := HB.out; omega)
  clear hob hq1 BK
  go_wp2_with fail
  refine (k_right S1.out).mono ?_
  rw [HM.out.right]
  rintro e w2 ⟨rfl, hq2⟩
  have Q2 := Lib.hid (Q1.out.trans (hq2.mono z1.out))
  have z2 : Hid (B ≤ w2.heap.size) := Lib.hid (by have := hq2.size; have := z1.out; omega)
  clear hq2 S1 Q1 z1
  go_wp2_with fail
  go_loopw [4, 16] (fun _ i wr => ∃ n : Nat, n ≤ N ∧ i = .int .i64 n ∧ fitN ks n = true ∧ Below B w wr) (fun _ i _ => N - (intOf i).toNat)
  case atStart => exact ⟨0, by omega, rfl, rfl, Q2.out⟩
  case round =>
    clear Q2 z2
    obtain ⟨n, hn, rfl, hst, hb⟩ := hrel
    have HST := Lib.hid hst
    have HBD := Lib.hid hb
    have sz : B ≤ wr.heap.size := by have := hb.size; have := HB.out; omega
    clear hst
    by_cases hlt : n < N
    · obtain ⟨g, o, e1, r0, l0⟩ := HS.out.row (by omega)
      have rr := r0.below hb (by have := r0.lt (by omega); have := HB.out; omega) (by have := HB.out; omega)
      subst e1
      have c0 := rr.c0 n (by omega)
      have c1 := rr.c1 n (by omega)
      have c2 := rr.c2 n (by omega)
      have c3 := rr.c3 n (by omega)
      have c4 := rr.c4 n (by omega)
      have c5 := rr.c5 n (by omega)
      have c6 := rr.c6 n (by omega)
      have c7 := rr.c7 n (by omega)
      have sx := rr.sl n (by omega)
      have s0 := rr.sl 0 (by omega)
      have ok := HM.out.okP (i := n) (by omega)
      have ne := (HM.out.pos (i := n) (by omega)).1
      obtain ⟨f, hf⟩ : ∃ f, fits (pk ks 0).cl (pk ks 0).ps (pk ks n).cl (pk ks n).ps = f := ⟨_, rfl⟩
      obtain ⟨x, ex⟩ : ∃ x, pk ks n = x := ⟨_, rfl⟩
      obtain ⟨V, hV⟩ : ∃ V, wr.alloc (.cells (pkCells x) 58) = V := ⟨_, rfl⟩
      have bV : Below wr.heap.size wr V := by rw [← hV]; exact (Below.refl _ _).alloc (Nat.le_refl _) _
      have KX : Has V wr.heap.size (pkCells x) 58 := by rw [← hV]; exact has_new rfl
      have rV := rr.below bV (rr.lt (by omega)) (Nat.le_refl _)
      rw [ex] at c0 c1 c2 c3 c4 c5 c6 c7 sx ok ne hf
      have FF := Lib.hid (by rw [← ex] at hf; exact hf)
      have EM : Hid (∀ w', Ht V w' → Calls Try.prog 22 #[.agg #[.bool x.cl, x.v]] w' fun e w'' => e = .returned (.bool false) ∧ Below w'.heap.size w' w'') := Lib.hid (fun w' h => by have := p_empty x.cl ((sx.below bV (Nat.le_refl _)).ht h); rw [decide_eq_false (by omega)] at this; exact this)
      have RT : Hid (∀ w', Ht V w' → Calls Try.prog 16 #[.agg #[.bool x.cl, x.v]] w' fun e w'' => e = .returned (.bool true) ∧ Below w'.heap.size w' w'') := Lib.hid (fun w' h => by have := p_right x.cl ((sx.below bV (Nat.le_refl _)).ht h); rw [ok] at this; exact this)
      have FT : Hid (∀ w', Ht V w' → Calls Try.prog 20 #[.agg #[.bool (pk ks 0).cl, (pk ks 0).v], .agg #[.bool x.cl, x.v]] w' fun e w'' => e = .returned (.bool f) ∧ Below w'.heap.size w' w'') := Lib.hid (fun w' h => by have := p_fits (pk ks 0).cl x.cl ((s0.below bV (Nat.le_refl _)).ht h) ((sx.below bV (Nat.le_refl _)).ht h); rw [hf] at this; exact this)
      have SS := Lib.hid (fun (w' : World) (h : Ht V w') => h.four KX rV (show 0 < ks.length by omega))
      have hx := sx.shape
      have h0 := s0.shape
      have HV := Lib.hid hV
      have o1 : (n : Int) < N := by omega
      have oz : (0 : Int) < N := by omega
      have oy : 0 < N := by omega
      have H0 : Hid (Ht V V) := Lib.hid (Ht.refl V)
      have BV : Hid (Below B w V) := Lib.hid (HBD.out.trans (bV.mono sz))
      have zV : Hid (B ≤ V.heap.size) := Lib.hid (by have := bV.size; omega)
      obtain ⟨xt, xcl, xv, xps, xh, xa, xb, xcc, xd⟩ := x
      obtain ⟨xo, xn, xc, e1⟩ := hx
      obtain ⟨y, ey⟩ : ∃ x, pk ks 0 = x := ⟨_, rfl⟩
      rw [ey] at h0 SS FT
      obtain ⟨yt, ycl, yv, yps, yh, ya, yb, ycc, yd⟩ := y
      obtain ⟨yo, yn, yc, e2⟩ := h0
      simp only at e1 e2
      subst e1 e2
      simp only at c0 c1 c2 c3 c4 c5 c6 c7
      clear rr r0 l0 hb sx s0 ok ne hf ex ey hV bV KX rV HS
      cases f
      · have EF := Lib.hid (fitN_off hlt FF.out)
        go_upto_region 6 with fail
        rw [HV.out]
        clear c0 c1 c2 c3 c4 c5 c6 c7
        go_region_held3 (fun w' => Ht V w' ∧ w'.cell? ⟨wr.heap.size, 1, none⟩ = some (.bool xcl) ∧ w'.cell? ⟨wr.heap.size, 2, none⟩ = some (.slice xo xn xc) ∧ w'.cell? ⟨g, o + 1, none⟩ = some (.bool ycl) ∧ w'.cell? ⟨g, o + 2, none⟩ = some (.slice yo yn yc))
          ((go_split_ands; first | exact SS.out _ H0.out.drew | exact SS.out _ (by assumption)))
          (first
            | (go_at_call 20; refine (FT.out _ h2).mono ?_; rintro e w3 ⟨rfl, hq3⟩; have h3 := Ht.call h2 hq3)
            | (go_at_call 16; refine (RT.out _ h1).mono ?_; rintro e w2' ⟨rfl, hq2⟩; have h2 := Ht.call h1 hq2)
            | (go_at_call 22; refine (EM.out _ H0.out.drew).mono ?_; rintro e w1' ⟨rfl, hq1⟩; have h1 := Ht.call H0.out.drew hq1))
        all_goals
          have R := Lib.hid (BV.out.trans (h3.below.mono zV.out))
          clear h1 h2 h3
          go_wp2
          go_ret
          exact ⟨by rw [EF.out]; rfl, by rw [HB.out]; exact R.out⟩
      · go_upto_region 6 with fail
        rw [HV.out]
        clear c0 c1 c2 c3 c4 c5 c6 c7
        go_region_held3 (fun w' => Ht V w' ∧ w'.cell? ⟨wr.heap.size, 1, none⟩ = some (.bool xcl) ∧ w'.cell? ⟨wr.heap.size, 2, none⟩ = some (.slice xo xn xc) ∧ w'.cell? ⟨g, o + 1, none⟩ = some (.bool ycl) ∧ w'.cell? ⟨g, o + 2, none⟩ = some (.slice yo yn yc))
          ((go_split_ands; first | exact SS.out _ H0.out.drew | exact SS.out _ (by assumption)))
          (first
            | (go_at_call 20; refine (FT.out _ h2).mono ?_; rintro e w3 ⟨rfl, hq3⟩; have h3 := Ht.call h2 hq3)
            | (go_at_call 16; refine (RT.out _ h1).mono ?_; rintro e w2' ⟨rfl, hq2⟩; have h2 := Ht.call h1 hq2)
            | (go_at_call 22; refine (EM.out _ H0.out.drew).mono ?_; rintro e w1' ⟨rfl, hq1⟩; have h1 := Ht.call H0.out.drew hq1))
        all_goals
          have R := Lib.hid (BV.out.trans (h3.below.mono zV.out))
          clear h1 h2 h3
          go_wp2
          go_roundw
          case rel => exact ⟨n + 1, by omega, by go_num, by unfold fitN; rw [HST.out, FF.out]; rfl, R.out⟩
          case measure => simp [intOf]; omega
    · obtain rfl : n = N := by omega
      have o1 : (n : Int) ≤ n := by omega
      clear hb
      go_wp2
      go_ret
      exact ⟨by rw [HST.out]; rfl, by rw [HB.out]; exact HBD.out⟩

end Go.Proofs.Ytdpfkhliechkhaa

namespace Go.Proofs.Ytdpfkhliechkhaa
open Go.RowKit
open M

set_option maxRecDepth 100000 in
set_option maxHeartbeats 2000000 in
theorem r8_keys {v : Value} {ks : List Pk} {w : World} (h : Kl w v ks) (hm : Mkd ks) :
    Calls Try.prog 29 #[v] w fun e w' => e = .returned (.bool (fitN ks ks.length)) ∧ Below w.heap.size w w' := by
  have hs := h
  obtain ⟨ao, cap, rfl, hf, _⟩ := h
  obtain ⟨N, hN⟩ : ∃ N, ks.length = N := ⟨_, rfl⟩
  have f4 : N ≤ 4 := by rw [← hN]; exact hm.few
  rw [hN] at hf hs ⊢
  have HS := Lib.hid hs
  have HN := Lib.hid hN
  have HM := Lib.hid hm
  obtain ⟨B, hB⟩ : ∃ B, w.heap.size = B := ⟨_, rfl⟩
  have HB := Lib.hid hB
  clear hs hN hm hB hf
  have o0 : (N : Int) ≤ 32 := by omega
  go_enter Try.func29, Try.ntmps29
  go_wp2
  go_loopw [3] (fun i wr => ∃ n : Nat, n ≤ N ∧ i = .int .i64 n ∧ fitN ks n = true ∧ Below B w wr) (fun i _ => N - (intOf i).toNat)
  case atStart => exact ⟨0, by omega, rfl, rfl, Below.refl _ _⟩
  case round =>
    obtain ⟨n, hn, rfl, hst, hb⟩ := hrel
    have HST := Lib.hid hst
    have HBD := Lib.hid hb
    have sz : Hid (B ≤ wr.heap.size) := Lib.hid (by have := hb.size; have := HB.out; omega)
    clear hst
    by_cases hlt : n < N
    · obtain ⟨g, o, e1, r0, l0⟩ := HS.out.row (by omega)
      have rr := r0.below hb (by have := r0.lt (by omega); have := HB.out; omega) (by have := HB.out; omega)
      subst e1
      have r' := fun z => rr.later (by omega) z
      have ok := HM.out.okP (i := n) (by omega)
      have nz := HM.out.pos (i := n) (by omega)
      have oh := HM.out.okHow (i := n) (by omega)
      have tk := HM.out.tick n (by omega)
      obtain ⟨f, hf⟩ : ∃ f, fits (pk ks 0).cl (pk ks 0).ps (pk ks n).cl (pk ks n).ps = f := ⟨_, rfl⟩
      have FF := Lib.hid hf
      have MV : Hid (∀ z : Later wr, Calls Try.prog 49 #[.int .i64 (pk ks n).t, .int .i64 (pk ks n).h, .agg #[.int .i64 (pk ks n).a, .int .i64 (pk ks n).b, .int .i64 (pk ks n).c, .int .i64 (pk ks n).d]] z.to fun e w'' => e = .returned (.bool true) ∧ Below z.to.heap.size z.to w'') := Lib.hid (fun z => by
        have h := r5_moves (pk ks n).t (pk ks n).h (pk ks n).a (pk ks n).b (pk ks n).c (pk ks n).d z.to
        rw [oh, show okIn (pk ks n).t 1073741824 = true by unfold okIn; simp; omega] at h
        exact h)
      have RT : Hid (∀ z : Later wr, Calls Try.prog 21 #[.agg #[.bool (pk ks n).cl, (pk ks n).v]] z.to fun e w'' => e = .returned (.bool true) ∧ Below z.to.heap.size z.to w'') := Lib.hid (fun z => by have h := r8_right (pk ks n).cl ((r' z).sl n (by omega)); rw [ok] at h; exact h)
      have FT : Hid (∀ z : Later wr, Calls Try.prog 23 #[.agg #[.bool (pk ks n).cl, (pk ks n).v], .agg #[.bool (pk ks 0).cl, (pk ks 0).v]] z.to fun e w'' => e = .returned (.bool f) ∧ Below z.to.heap.size z.to w'') := Lib.hid (fun z => by have h := r8_fits (pk ks n).cl (pk ks 0).cl ((r' z).sl n (by omega)) ((r' z).sl 0 (by omega)); rw [fits_comm, hf] at h; exact h)
      have hx : ∃ ao cap, (pk ks n).v = .slice ao (pk ks n).ps.length cap := by obtain ⟨a, b, c, _⟩ := rr.sl n (by omega); exact ⟨a, b, c⟩
      have h0 := (rr.sl 0 (by omega)).shape
      have c0 := fun z => (r' z).c0 n (by omega)
      have c1 := fun z => (r' z).c1 n (by omega)
      have c2 := fun z => (r' z).c2 n (by omega)
      have c3 := fun z => (r' z).c3 n (by omega)
      have c4 := fun z => (r' z).c4 n (by omega)
      have c5 := fun z => (r' z).c5 n (by omega)
      have c6 := fun z => (r' z).c6 n (by omega)
      have c7 := fun z => (r' z).c7 n (by omega)
      have b1 := fun z => (r' z).c1 0 (by omega)
      have b2 := fun z => (r' z).c2 0 (by omega)
      simp only [Nat.zero_mul, Nat.add_zero] at b1 b2
      have o1 : (n : Int) < N := by omega
      have oz : (0 : Int) < N := by omega
      have oy : 0 < N := by omega
      have EF : Hid (f = false → fitN ks N = false) := Lib.hid (fun e => fitN_off hlt (by rw [FF.out]; exact e))
      have NX : Hid (f = true → fitN ks (n + 1) = true) := Lib.hid (fun e => by unfold fitN; rw [HST.out, FF.out, e]; rfl)
      by_cases hz : n = 0
      · subst hz
        simp only [Nat.zero_mul, Nat.add_zero] at c0 c1 c2 c3 c4 c5 c6 c7
        obtain ⟨x, ex⟩ : ∃ x, pk ks 0 = x := ⟨_, rfl⟩
        rw [ex] at c0 c1 c2 c3 c4 c5 c6 c7 b1 b2 hx nz
        simp only [ex] at MV RT FT
        clear r' rr r0 l0 hb ok oh tk hf FF h0 HS ex b1 b2 o1
        obtain ⟨xt, xcl, xv, xps, xh, xa, xb, xcc, xd⟩ := x
        obtain ⟨xo, xc, e1⟩ := hx
        simp only at e1 nz
        subst e1
        obtain ⟨L, hL⟩ : ∃ L, xps.length = L := ⟨_, rfl⟩
        have nz1 : ((L : Int) == 0) = false := eqz (by omega)
        have nz2 : ¬ (L : Int) = 0 := by omega
        simp only [hL] at c2 RT FT
        clear nz hL
        cases f
        · have EG := Lib.hid (EF.out rfl)
          clear EF NX
          go_wp2_with fail
          refine wp_region_class (C := fun w' => ∃ z : Later wr, w' = z.to) (by kernel_rfl) (by kernel_rfl) ⟨⟨_, below_drew (Below.refl _ _)⟩, rfl⟩ ?_
          repeat (go_big_quiet_step (first | (go_at_call 49; exact Later.calls (MV.out _)) | (go_at_call 21; exact Later.calls (RT.out _)) | (go_at_call 23; exact Later.calls (FT.out _))))
          refine wpQuiet_nil ?_
          rintro _ ⟨z, rfl⟩
          go_wp2
          go_ret
          exact ⟨by rw [EG.out]; rfl, by rw [HB.out]; exact HBD.out.trans (z.below.mono sz.out)⟩
        · have NG := Lib.hid (NX.out rfl)
          clear EF NX
          go_wp2_with fail
          refine wp_region_class (C := fun w' => ∃ z : Later wr, w' = z.to) (by kernel_rfl) (by kernel_rfl) ⟨⟨_, below_drew (Below.refl _ _)⟩, rfl⟩ ?_
          repeat (go_big_quiet_step (first | (go_at_call 49; exact Later.calls (MV.out _)) | (go_at_call 21; exact Later.calls (RT.out _)) | (go_at_call 23; exact Later.calls (FT.out _))))
          refine wpQuiet_nil ?_
          rintro _ ⟨z, rfl⟩
          have Z := Lib.hid (HBD.out.trans (z.below.mono sz.out))
          obtain ⟨Y, hY⟩ : ∃ Y, z.to = Y := ⟨_, rfl⟩
          rw [hY] at Z ⊢
          clear hY c0 c1 c2 c3 c4 c5 c6 c7
          go_wp2
          go_roundw
          case rel => exact ⟨1, by omega, by go_num, NG.out, Z.out⟩
          case measure => simp [intOf]; omega
      · obtain ⟨m, hm⟩ : ∃ m : Nat, n = m + 1 := ⟨n - 1, by omega⟩
        have e1 : (n : Int) - 1 = (m : Int) := by omega
        have e2 : IntKind.i64.wrap ((n : Int) - 1) = (m : Int) := by rw [e1]; exact IntWalk.i64_in _ (by omega)
        have o2 : (m : Int) < N := by omega
        have o3 : 0 < n := by omega
        have d0 := fun z => (r' z).c0 m (by omega)
        have hup := HM.out.up m (by omega)
        rw [← hm] at hup
        obtain ⟨x, ex⟩ : ∃ x, pk ks n = x := ⟨_, rfl⟩
        obtain ⟨y, ey⟩ : ∃ x, pk ks 0 = x := ⟨_, rfl⟩
        obtain ⟨T, eT⟩ : ∃ T, (pk ks m).t = T := ⟨_, rfl⟩
        rw [ex] at c0 c1 c2 c3 c4 c5 c6 c7 hx nz hup
        rw [ey] at b1 b2 h0
        rw [eT] at d0 hup
        simp only [ex] at MV RT FT
        simp only [ey] at FT
        clear r' rr r0 l0 hb ok oh tk hf FF HS ex ey eT hm
        obtain ⟨xt, xcl, xv, xps, xh, xa, xb, xcc, xd⟩ := x
        obtain ⟨yt, ycl, yv, yps, yh, ya, yb, ycc, yd⟩ := y
        obtain ⟨xo, xc, ex1⟩ := hx
        obtain ⟨yo, yn, yc, ey1⟩ := h0
        simp only at ex1 nz ey1 hup
        subst ex1 ey1
        obtain ⟨L, hL⟩ : ∃ L, xps.length = L := ⟨_, rfl⟩
        have nz1 : ((L : Int) == 0) = false := eqz (by omega)
        have nz2 : ¬ (L : Int) = 0 := by omega
        simp only [hL] at c2 RT FT
        have hup2 : decide (xt ≤ T) = false := decide_eq_false (by omega)
        clear nz hL
        cases f
        · have EG := Lib.hid (EF.out rfl)
          clear EF NX
          go_wp2_with fail
          refine wp_region_class (C := fun w' => ∃ z : Later wr, w' = z.to) (by kernel_rfl) (by kernel_rfl) ⟨⟨_, below_drew (Below.refl _ _)⟩, rfl⟩ ?_
          repeat (go_big_quiet_step (first | (go_at_call 49; exact Later.calls (MV.out _)) | (go_at_call 21; exact Later.calls (RT.out _)) | (go_at_call 23; exact Later.calls (FT.out _))))
          refine wpQuiet_nil ?_
          rintro _ ⟨z, rfl⟩
          go_wp2
          go_ret
          exact ⟨by rw [EG.out]; rfl, by rw [HB.out]; exact HBD.out.trans (z.below.mono sz.out)⟩
        · have NG := Lib.hid (NX.out rfl)
          clear EF NX
          go_wp2_with fail
          refine wp_region_class (C := fun w' => ∃ z : Later wr, w' = z.to) (by kernel_rfl) (by kernel_rfl) ⟨⟨_, below_drew (Below.refl _ _)⟩, rfl⟩ ?_
          repeat (go_big_quiet_step (first | (go_at_call 49; exact Later.calls (MV.out _)) | (go_at_call 21; exact Later.calls (RT.out _)) | (go_at_call 23; exact Later.calls (FT.out _))))
          refine wpQuiet_nil ?_
          rintro _ ⟨z, rfl⟩
          have Z := Lib.hid (HBD.out.trans (z.below.mono sz.out))
          obtain ⟨Y, hY⟩ : ∃ Y, z.to = Y := ⟨_, rfl⟩
          rw [hY] at Z ⊢
          clear hY c0 c1 c2 c3 c4 c5 c6 c7 d0 b1 b2
          go_wp2
          go_roundw
          case rel => exact ⟨n + 1, by omega, by go_num, NG.out, Z.out⟩
          case measure => simp [intOf]; omega
    · obtain rfl : n = N := by omega
      have o1 : (n : Int) ≤ n := by omega
      clear hb
      go_wp2
      go_ret
      exact ⟨by rw [HST.out]; rfl, by rw [HB.out]; exact HBD.out⟩

/-- The share between two keys of a tape is what the document says. -/
theorem share_eq {x y : Pk} {t : Int} (hh : x.h = 0 ∨ x.h = 1) (h1 : x.t ≤ t) (h2 : ¬ y.t ≤ t) : atk [barev x 0, barev y 65536] t 0 = goes x.h x.a x.b x.c x.d (prt x.t y.t t) := by
  have e1 : ky [barev x 0, barev y 65536] 0 = barev x 0 := rfl
  have e2 : ky [barev x 0, barev y 65536] 1 = barev y 65536 := rfl
  have f : find [barev x 0, barev y 65536] t = 0 := by
    unfold find
    show findN _ t 2 = 0
    rw [findN_miss (by rw [e2]; exact h2), findN_hit (by rw [e1]; exact h1)]
    rfl
  unfold atk
  rw [f]
  rw [if_neg (by simp), if_neg (by decide), if_neg (by simp)]
  show tween (ky _ 0) (ky _ 1) t = _
  rw [e1, e2]
  unfold tween
  show mid 0 65536 (goes x.h x.a x.b x.c x.d (prt x.t y.t t)) = _
  have pb := prt_bd x.t y.t t
  have gb := goes_bd (h := x.h) (a := x.a) (b := x.b) (c := x.c) (d := x.d) (by omega) (by omega) pb.1 pb.2
  rw [mid_small (by omega) (by omega) (by omega) (by omega) gb.1 gb.2]
  omega
theorem find_hit {ks : List Ky} {t : Int} {n i : Nat} (h : findN ks t n = (i : Int)) : (ky ks i).t ≤ t ∧ ∀ j, i < j → j < n → ¬ (ky ks j).t ≤ t := by
  induction n with
  | zero => exfalso; unfold findN at h; omega
  | succ n ih =>
    by_cases hc : (ky ks n).t ≤ t
    · rw [findN_hit hc] at h
      have e : n = i := by omega
      subst e
      exact ⟨hc, fun j h1 h2 => by omega⟩
    · rw [findN_miss hc] at h
      obtain ⟨a, b⟩ := ih h
      refine ⟨a, fun j h1 h2 => ?_⟩
      by_cases e : j = n
      · subst e; exact hc
      · exact b j h1 (by omega)
theorem Mkd.same {ks : List Pk} (h : Mkd ks) (t : Int) : atps ks t = ratps ks t := by
  by_cases h0 : ks.length = 0
  · unfold atps ratps; rw [if_pos h0, if_pos h0]
  · have self : ∀ i, i < ks.length → morph (pk ks i).cl (pk ks i).ps (pk ks i).cl (pk ks i).ps 0 = (pk ks i).ps := fun i hi => by
      rw [morph_yes (by rw [fits_eq rfl]; simp)]
      exact midL_zero (h.small i hi) (h.small i hi) rfl
    rcases atp_cases ks t (by omega) with ⟨f1, _, f3⟩ | ⟨i, f1, f4, _, f3⟩ | ⟨i, f1, f4, _, f3⟩
    · rcases ratp_cases ks t (by omega) with ⟨g1, _, g3⟩ | ⟨j, g1, g4, _, g3⟩ | ⟨j, g1, g4, _, g3⟩
      · rw [f3, g3, self 0 (by omega)]
      · omega
      · omega
    · rcases ratp_cases ks t (by omega) with ⟨g1, _, g3⟩ | ⟨j, g1, g4, _, g3⟩ | ⟨j, g1, g4, _, g3⟩
      · omega
      · have e : i = j := by omega
        subst e
        rw [f3, g3, self i (by omega)]
      · omega
    · rcases ratp_cases ks t (by omega) with ⟨g1, _, g3⟩ | ⟨j, g1, g4, _, g3⟩ | ⟨j, g1, g4, _, g3⟩
      · omega
      · omega
      · have e : i = j := by omega
        subst e
        have hh := f1
        unfold find at hh
        rw [barep_length] at hh
        obtain ⟨a, b⟩ := find_hit hh
        have b1 := b (i + 1) (by omega) f4
        rw [ky_barep (by omega)] at a b1
        rw [f3, g3, share_eq (h.how i (by omega)) a b1]
theorem atps_few {ks : List Pk} (h : Mkd ks) (t : Int) : (atps ks t).length ≤ 1000 := by
  by_cases h0 : ks.length = 0
  · unfold atps; rw [if_pos h0]; simp
  · rcases atp_cases ks t (by omega) with ⟨f1, _, f3⟩ | ⟨i, f1, f4, _, f3⟩ | ⟨i, f1, f4, _, f3⟩
    · rw [f3]; have := (h.pos (i := 0) (by omega)).2; omega
    · rw [f3]; have := (h.pos (i := i) (by omega)).2; omega
    · rw [f3, morph_length]; have := (h.pos (i := i) (by omega)).2; omega
theorem same_d (c : Bool) (ps : List Pt) : ((c == c) && decide (ps = ps)) = true := by simp

set_option maxHeartbeats 1000000 in
theorem l7_keys {v : Value} {ks : List Pk} {w : World} (h : Kl w v ks) (hm : Mkd ks) (t : Int) :
    Calls Try.prog 9 #[v, .int .i64 t] w fun e w' => e = .returned (.bool true) ∧ Below w.heap.size w w' := by
  have HL := Lib.hid h
  obtain ⟨f, hf⟩ : ∃ f, fitN ks ks.length = f := ⟨_, rfl⟩
  have K1 := p_keys h hm
  rw [hf] at K1
  have HK1 := Lib.hid K1
  have HM := Lib.hid hm
  have HF := Lib.hid hf
  obtain ⟨ao, cap, rfl, _, _⟩ := h
  clear K1 hf hm
  go_enter Try.func9, Try.ntmps9
  go_wp2_with fail
  refine HK1.out.mono ?_
  rintro e w1 ⟨rfl, hq1⟩
  have L1 := HL.out.below hq1
  have K2 := r8_keys L1 HM.out
  rw [HF.out] at K2
  have HK2 := Lib.hid K2
  have HL1 := Lib.hid L1
  have Q1 := Lib.hid hq1
  clear K2 L1 hq1 HK1 HL
  go_wp2_with fail
  refine HK2.out.mono ?_
  rintro e w2 ⟨rfl, hq2⟩
  have L2 := HL1.out.below hq2
  have HL2 := Lib.hid L2
  have Q2 := Lib.hid (Q1.out.trans (hq2.mono Q1.out.size))
  clear L2 hq2 HK2 HL1 Q1
  go_wp2_with fail
  refine (p_at HL2.out t).mono ?_
  rintro e w3 ⟨v3, rfl, ho3, hq3⟩
  have L3 := Lib.hid (HL2.out.below hq3)
  have Q3 := Lib.hid (Q2.out.trans (hq3.mono Q2.out.size))
  have O3 := Lib.hid (ho3.sl (atps_few HM.out t))
  obtain ⟨ao3, cap3, rfl⟩ := ho3.len
  clear ho3 hq3 HL2 Q2
  go_wp2_with fail
  refine (r8_at L3.out t).mono ?_
  rw [← HM.out.same t]
  rintro e w4 ⟨v4, rfl, ho4, hq4⟩
  have Q4 := Lib.hid (Q3.out.trans (hq4.mono Q3.out.size))
  have O4 := Lib.hid (O3.out.below hq4 (Nat.le_refl _))
  have P4 := Lib.hid (ho4.sl (atps_few HM.out t))
  obtain ⟨ao4, cap4, rfl⟩ := ho4.len
  clear ho4 hq4 L3 Q3 O3
  go_wp2_with fail
  refine (r8_same (atcl ks t) (atcl ks t) O4.out P4.out).mono ?_
  rw [same_d]
  rintro e w5 ⟨rfl, hq5⟩
  have Q5 := Lib.hid (Q4.out.trans (hq5.mono Q4.out.size))
  clear hq5 Q4 O4 P4
  go_wp2
  go_ret
  exact ⟨rfl, Q5.out⟩

end Go.Proofs.Ytdpfkhliechkhaa

namespace Go.Proofs.Ytdpfkhliechkhaa
open Go Go.RowKit
open M

def pkl (k : Pk) : List Value := [.int .i64 k.t, .bool k.cl, k.v, .int .i64 k.h, .int .i64 k.a, .int .i64 k.b, .int .i64 k.c, .int .i64 k.d]
def pkls (ks : List Pk) : List Value := ks.flatMap pkl
theorem pkls_cons (k : Pk) (ks : List Pk) : pkls (k :: ks) = pkl k ++ pkls ks := by simp [pkls]
theorem pkls_snoc (ks : List Pk) (k : Pk) : pkls (ks ++ [k]) = pkls ks ++ pkl k := by simp [pkls]
theorem pkls_at {ks : List Pk} {i j : Nat} (hi : i < ks.length) (hj : j < 8) : (pkls ks)[i * 8 + j]? = (pkl (pk ks i))[j]? := by
  induction ks generalizing i with
  | nil => simp at hi
  | cons k ks ih =>
    rw [pkls_cons]
    cases i with
    | zero => rw [pk_zero, Nat.zero_mul, Nat.zero_add, List.getElem?_append_left (by simpa [pkl] using hj)]
    | succ i =>
      rw [pk_cons, List.getElem?_append_right (by simp [pkl]; omega)]
      rw [← ih (by simpa using hi)]
      congr 1
      simp [pkl]; omega
def Kown (w : World) (base : Nat) (v : Value) (ks : List Pk) : Prop := w.ownsRow base 58 8 v ks.length (pkls ks)
theorem Kown.base {w : World} {B : Nat} {v : Value} {ks : List Pk} (h : Kown w B v ks) (k : Nat) (hk : v.ownBlock = some k) : B ≤ k ∧ k < w.heap.size := World.ownsRow.lt h k hk
theorem Kown.kept {w w' : World} {B : Nat} {v : Value} {ks : List Pk} {row : Option Nat} (h : Kown w B v ks) (hg : w.grownBy w' row) (hr : ∀ k, row = some k → v.ownBlock ≠ some k) : Kown w' B v ks := by
  refine World.ownsRow.kept h hg ?_
  by_cases e : v.ownBlock = none
  · exact Or.inl e
  · refine Or.inr fun e2 => ?_
    cases hrow : row with
    | none => rw [hrow] at e2; exact e e2
    | some k => rw [hrow] at e2; exact hr k hrow e2
theorem Kown.kl {w : World} {B : Nat} {v : Value} {ks : List Pk} (h : Kown w B v ks) (hf : ks.length ≤ 100) (hp : ∀ i, i < ks.length → Psl w (pk ks i).v (pk ks i).ps) : Kl w v ks := by
  rcases h.2 with ⟨rfl, hn⟩ | ⟨g, cap, cur, rfl, _, hg, _, _, _, ht⟩
  · exact ⟨none, 0, by rw [hn], hf, fun h0 => by omega⟩
  · refine ⟨_, cap, rfl, hf, fun _ => ⟨g, 0, rfl, ?_⟩⟩
    have key : ∀ i j u, i < ks.length → j < 8 → (pkl (pk ks i))[j]? = some u → w.cell? ⟨g, 0 + i * 8 + j, none⟩ = some u := by
      intro i j u hi hj hu
      have hu := (pkls_at hi hj).trans hu
      rw [Nat.zero_add, cell_of_row w g _ cur _ _ hg]
      rw [← ht, List.getElem?_take] at hu
      split at hu
      · simpa using hu
      · cases hu
    exact ⟨hf, hp, fun i hi => key i 0 _ hi (by omega) rfl, fun i hi => key i 1 _ hi (by omega) rfl, fun i hi => key i 2 _ hi (by omega) rfl, fun i hi => key i 3 _ hi (by omega) rfl, fun i hi => key i 4 _ hi (by omega) rfl, fun i hi => key i 5 _ hi (by omega) rfl, fun i hi => key i 6 _ hi (by omega) rfl, fun i hi => key i 7 _ hi (by omega) rfl⟩
theorem Try.infoPk : (Try.prog.info? 58).map (fun i => (i.zero, i.size, i.bytes)) = some (some (.agg #[.int .i64 0, .bool false, .slice none 0 0, .int .i64 0, .int .i64 0, .int .i64 0, .int .i64 0, .int .i64 0]), 8, 80) := by kernel_rfl

/-- The keys so far: the list lv, each path's own list, the tape in block B, all ticks ahead of A. -/
structure Mad (w : World) (B : Nat) (tp : Value) (A : Int) (ks : List Pk) (lv : Value) (wr : World) : Prop where
  own : Kown wr (B + 1) lv ks
  paths : ∀ i, i < ks.length → Pown wr (B + 1) (pk ks i).v (pk ks i).ps
  ne : ∀ i, i < ks.length → ∀ k, (pk ks i).v.ownBlock = some k → lv.ownBlock ≠ some k
  tape : Tp wr B tp
  below : Below B w wr
  sz : B + 1 ≤ wr.heap.size
  made : Mkd ks
  last : ∀ i, i < ks.length → (pk ks i).t < A
  a0 : 0 ≤ A
  a1 : A ≤ 3 + 5 * ks.length
theorem Mad.call {w wr w2 : World} {B : Nat} {tp lv : Value} {A : Int} {ks : List Pk} (h : Mad w B tp A ks lv wr) (ht : Tp w2 B tp) (hg : wr.grownBy w2 (some B)) : Mad w B tp A ks lv w2 :=
  ⟨h.own.kept hg (fun k hk e => by simp at hk; have := (h.own.base k e).1; omega), fun i hi => (h.paths i hi).young hg (by omega), h.ne, ht, below_on h.below hg (Nat.le_refl _) (by have := h.sz; omega), by have := hg.size; have := h.sz; omega, h.made, h.last, h.a0, h.a1⟩
theorem Mad.alloc {w wr : World} {B : Nat} {tp lv : Value} {A : Int} {ks : List Pk} (h : Mad w B tp A ks lv wr) (o : Obj) : Mad w B tp A ks lv (wr.alloc o) :=
  ⟨h.own.kept (World.grownBy_alloc wr o none) (fun k hk => by cases hk), fun i hi => (h.paths i hi).alloc o, h.ne, tp_alloc h.tape o, h.below.alloc (by have := h.sz; omega) o, by have := h.sz; simp; omega, h.made, h.last, h.a0, h.a1⟩
theorem Mad.set {w w0 wr : World} {B : Nat} {tp lv : Value} {A : Int} {ks : List Pk} (h0 : Mad w B tp A ks lv w0) (h : Mad w B tp A ks lv wr) {k : Nat} (hk : w0.heap.size ≤ k) (j : Nat) (u : Value) : Mad w B tp A ks lv (wr.setCell ⟨k, j, none⟩ u) := by
  have hs : wr.grownBy (wr.setCell ⟨k, j, none⟩ u) (some k) := grownBy_set (World.grownBy.refl _ _) _ _
  have hz := h0.sz
  exact ⟨h.own.kept hs (fun i hi e => by simp at hi; have := (h0.own.base i e).2; omega), fun i hi => (h.paths i hi).kept hs (fun q hq e => by simp at hq; have := ((h0.paths i hi).base q e).2; omega), h.ne, h0.tape.young h.tape hs (fun i hi => by simp at hi; omega), h.below.setCell (by show B ≤ k; omega) _, by have := h.sz; simpa using this, h.made, h.last, h.a0, h.a1⟩
theorem Mkd.snoc {ks : List Pk} (h : Mkd ks) {x : Pk} {A : Int} (hl : ks.length ≤ 3) (hA : ∀ i, i < ks.length → (pk ks i).t < A) (ht : x.t = A) (a0 : 0 ≤ A) (a1 : A ≤ 100) (hh : x.h = 0 ∨ x.h = 1) (hp : x.a = 0 ∧ x.b = 0 ∧ x.c = 0 ∧ x.d = 0) (hs : Small x.ps) (hf : ∃ n, 1 ≤ n ∧ n ≤ 6 ∧ x.ps.length = 3 * n + 1) : Mkd (ks ++ [x]) := by
  have each : ∀ (P : Pk → Prop), (∀ i, i < ks.length → P (pk ks i)) → P x → ∀ i, i < (ks ++ [x]).length → P (pk (ks ++ [x]) i) := by
    intro P h1 h2 i hi
    simp at hi
    by_cases e : i < ks.length
    · rw [pk_left e]; exact h1 i e
    · obtain rfl : i = ks.length := by omega
      rw [pk_last]; exact h2
  refine ⟨by simp; omega, each (fun k => k.h = 0 ∨ k.h = 1) h.how hh, each (fun k => k.a = 0 ∧ k.b = 0 ∧ k.c = 0 ∧ k.d = 0) h.plain hp, each (fun k => 0 ≤ k.t ∧ k.t ≤ 100) h.tick (by omega), ?_, each (fun k => Small k.ps) h.small hs, each (fun k => ∃ n, 1 ≤ n ∧ n ≤ 6 ∧ k.ps.length = 3 * n + 1) h.form hf⟩
  intro i hi
  simp at hi
  by_cases e : i + 1 < ks.length
  · rw [pk_left e, pk_left (by omega)]; exact h.up i e
  · have e2 : i + 1 = ks.length := by omega
    rw [pk_left (by omega), e2, pk_last, ht]
    exact hA i (by omega)
theorem Mad.snoc {w W w' : World} {B g' cap' : Nat} {tp lv : Value} {A A' : Int} {ks : List Pk} {x : Pk} (hT : ∃ wb, Tp wb B tp ∧ wb.heap.size = B + 1) (h : Mad w B tp A ks lv W) (hl : ks.length ≤ 3) (ht : x.t = A) (hh : x.h = 0 ∨ x.h = 1) (hp : x.a = 0 ∧ x.b = 0 ∧ x.c = 0 ∧ x.d = 0) (hs : Small x.ps) (hf : ∃ n, 1 ≤ n ∧ n ≤ 6 ∧ x.ps.length = 3 * n + 1)
    (hx : Pown W (B + 1) x.v x.ps) (hne : ∀ k, x.v.ownBlock = some k → lv.ownBlock ≠ some k) (A1 : A + 1 ≤ A') (A2 : A' ≤ A + 5)
    (ho : w'.ownsRow (B + 1) 58 8 (.slice (some ⟨g', 0, none⟩) (ks.length + 1) cap') (ks.length + 1) (pkls ks ++ pkl x)) (hg : W.grownBy w' lv.ownBlock) (hat : lv.ownBlock = some g' ∨ g' = W.heap.size) :
    Mad w B tp A' (ks ++ [x]) (.slice (some ⟨g', 0, none⟩) (ks.length + 1) cap') w' := by
  have b0 := h.a0
  have b1 := h.a1
  have hsz := h.sz
  have hrow : ∀ k, lv.ownBlock = some k → B + 1 ≤ k := fun k hk => (h.own.base k hk).1
  obtain ⟨wb, hwb, hwz⟩ := hT
  have each : ∀ (P : Pk → Prop), (∀ i, i < ks.length → P (pk ks i)) → P x → ∀ i, i < (ks ++ [x]).length → P (pk (ks ++ [x]) i) := by
    intro P h1 h2 i hi
    simp at hi
    by_cases e : i < ks.length
    · rw [pk_left e]; exact h1 i e
    · obtain rfl : i = ks.length := by omega
      rw [pk_last]; exact h2
  refine ⟨?_, ?_, ?_, hwb.young h.tape hg (fun k hk => by rw [hwz]; exact hrow k hk), h.below.grown hg (by omega) (fun k hk => by have := hrow k hk; omega), by have := hg.size; omega, h.made.snoc hl h.last ht b0 (by omega) hh hp hs hf, ?_, by omega, by simp; omega⟩
  · unfold Kown
    rw [pkls_snoc, List.length_append]
    exact ho
  · refine each (fun k => Pown w' (B + 1) k.v k.ps) (fun i hi => (h.paths i hi).kept hg (fun k hk e => h.ne i hi k e hk)) (hx.kept hg (fun k hk e => hne k e hk))
  · refine each (fun q => ∀ k, q.v.ownBlock = some k → Value.ownBlock (.slice (some ⟨g', 0, none⟩) (ks.length + 1) cap') ≠ some k) (fun i hi k hk e => ?_) (fun k hk e => ?_)
    · have e' : some g' = some k := e
      simp at e'
      rcases hat with hat | hat
      · exact h.ne i hi k hk (by rw [hat, e'])
      · have := ((h.paths i hi).base k hk).2; omega
    · have e' : some g' = some k := e
      simp at e'
      rcases hat with hat | hat
      · exact hne k hk (by rw [hat, e'])
      · have := (hx.base k hk).2; omega
  · exact each (fun k => k.t < A') (fun i hi => by have := h.last i hi; omega) (by omega)
theorem ones_pkl {x : Pk} (hv : ∃ ao n cap, x.v = .slice ao n cap) : ∀ u ∈ pkl x, u.oneCell' = true := by
  obtain ⟨ao, n, cap, hv⟩ := hv
  intro u hu
  simp [pkl] at hu
  rcases hu with rfl | rfl | rfl | rfl | rfl | rfl | rfl | rfl <;> first | rfl | (rw [hv]; rfl)
/-- An append of a key of a path that lies in a block of its own. -/
theorem wpList_append_pk {W : World} {base : Nat} {l : Value} {ks : List Pk} {ops : Array Oper} {rest : List Oper} {o : Oper} {a : Act} {Q : Exit → Act → World → Prop} (hgd : o.guard = none) (s x : Operand)
    (ho : o.op = .call { callee := .builtin .append, args := #[s, x], argTypes := #[34, 34] }) (hf : ks.length ≤ 100) (hs : a.eval s = l) (H : Nat) (hx : a.eval x = .slice (some ⟨H, 0, none⟩) 1 1)
    (p : Pk) (hv : ∃ ao n cap, p.v = .slice ao n cap) (hn : Has W H (pkCells p) 58) (hT : Kown W base l ks) (hb : base ≤ W.heap.size)
    (h : ∀ g' cap' w', w'.ownsRow base 58 8 (.slice (some ⟨g', 0, none⟩) (ks.length + 1) cap') (ks.length + 1) (pkls ks ++ pkl p) → W.grownBy w' l.ownBlock → (l.ownBlock = some g' ∨ g' = W.heap.size) → wpList Try.prog ops Q rest (a.put o.dst (.slice (some ⟨g', 0, none⟩) (ks.length + 1) cap')) w') : wpList Try.prog ops Q (o :: rest) a W := by
  obtain ⟨i0, hi, hz0, hz1, hz2⟩ := info_parts Try.infoPk
  refine wpList_append_lies W hgd s x 34 ho base 58 i0 _ 8 80 Try.underlying34 hi hz0 hz1 hz2 rfl (by decide) l ks.length (pkls ks) hs hT ⟨H, 0, none⟩ 1 1 (pkl p) hx rfl ?_ (ones_pkl hv) (by decide) (by unfold maxLen; omega) (by omega) hb _ rfl ?_
  · intro j u hu
    rw [Addr.add_lit, Nat.zero_add]
    exact hn.cell j u (by simpa [pkl] using hu)
  intro g' cap' w' hown' hg hat _
  exact h g' cap' w' hown' hg hat

def Mades (w : World) (e : Ending) (w' : World) : Prop := ∃ (v : Value) (ks : List Pk), e = .returned v ∧ Mkd ks ∧ Kl w' v ks ∧ Below w.heap.size w w'

set_option maxHeartbeats 4000000 in
theorem l7_made {w : World} {l : Value} (hN : Nums w l) (odd : Int) : Calls Try.prog 10 #[l, .int .i64 odd] w (Mades w) := by
  obtain ⟨B, hB⟩ : ∃ B, w.heap.size = B := ⟨_, rfl⟩
  obtain ⟨W, hW⟩ : ∃ W, w.alloc (.cells #[l, .int .i64 0] 39) = W := ⟨_, rfl⟩
  have hb0 : Below w.heap.size w W := by rw [← hW]; exact (Below.refl _ _).alloc (Nat.le_refl _) _
  have T1 : Tp W B l := tp_start hN (by rw [← hW]; exact has_new hB) hb0 (by omega)
  have sz0 : W.heap.size = B + 1 := by rw [← hW]; simp [hB]
  rw [hB] at hb0
  obtain ⟨a1, n1, c1, rfl⟩ := hN.shape
  have HB := Lib.hid hB
  have HW := Lib.hid hW
  have HB0 := Lib.hid hb0
  have HT1 := Lib.hid T1
  have TB : Hid (∃ wb, Tp wb B (.slice a1 n1 c1) ∧ wb.heap.size = B + 1) := Lib.hid ⟨W, T1, sz0⟩
  obtain ⟨od, hod⟩ : ∃ q, bits .and .i64 odd 7 = q := ⟨_, rfl⟩
  clear hb0 T1 hW hN
  go_enter Try.func10, Try.ntmps10
  go_wp2_with fail
  rw [HW.out]
  clear hB
  refine (t_next B _ 4 _ (by omega) (by omega) HT1.out).mono ?_
  rintro e w1 ⟨x', rfl, x0, x1, ht, hg⟩
  obtain ⟨n, hn⟩ : ∃ n : Nat, (n : Int) = 1 + x' := ⟨(1 + x').toNat, by omega⟩
  have HT2 := Lib.hid ht
  have HB1 := Lib.hid (below_on HB0.out hg (by omega) (by omega))
  have sz1 : B + 1 ≤ w1.heap.size := by have := hg.size; omega
  have hn4 : n ≤ 4 := by omega
  have hn1 : 1 ≤ n := by omega
  have HN := Lib.hid hn
  clear ht hg HT1 HB0 sz0
  go_wp2_with fail
  rw [← HN.out]
  clear hn x0 x1 HN
  refine (t_next B _ 2 _ (by omega) (by omega) HT2.out).mono ?_
  rintro e w2 ⟨z, rfl, z0, z1, ht, hg⟩
  obtain ⟨c, hc⟩ : ∃ c : Bool, (z == 0) = c := ⟨_, rfl⟩
  have HT3 := Lib.hid ht
  have HB2 := Lib.hid (below_on HB1.out hg (by omega) (by omega))
  have sz2 : B + 1 ≤ w2.heap.size := by have := hg.size; omega
  clear ht hg HT2 HB1 z0 z1 sz1
  go_wp2_with fail
  clear hc
  refine (t_next B _ 4 _ (by omega) (by omega) HT3.out).mono ?_
  rintro e w3 ⟨A0, rfl, A1, A2, ht, hg⟩
  have HT4 := Lib.hid ht
  have HB3 := Lib.hid (below_on HB2.out hg (by omega) (by omega))
  have sz3 : B + 1 ≤ w3.heap.size := by have := hg.size; omega
  clear ht hg HT3 HB2 sz2
  go_wp2_with fail
  refine (t_next B _ 5 _ (by omega) (by omega) HT4.out).mono ?_
  rintro e w4 ⟨k0, rfl, k1, k2, ht, hg⟩
  have M0 : Mad w B (.slice a1 n1 c1) A0 [] (.slice none 0 0) w4 := ⟨World.ownsRow_nil _ _ _ _, fun i hi => by simp at hi, fun i hi => by simp at hi, ht, below_on HB3.out hg (by omega) (by omega), by have := hg.size; omega, ⟨by simp, fun i hi => by simp at hi, fun i hi => by simp at hi, fun i hi => by simp at hi, fun i hi => by simp at hi, fun i hi => by simp at hi, fun i hi => by simp at hi⟩, fun i hi => by simp at hi, A1, by simp; omega⟩
  have HM0 := Lib.hid M0
  obtain ⟨m0, rfl⟩ := Int.eq_ofNat_of_zero_le k1
  clear M0 ht hg HT4 HB3 sz3
  go_wp2
  go_loopw [8, 9, 10, 11] (fun lv at' k _ wr => ∃ (m : Nat) (A : Int) (ks : List Pk) (lw : Value), k = .int .i64 m ∧ at' = .int .i64 A ∧ lv = lw ∧ m + ks.length ≤ 4 ∧ Mad w B (.slice a1 n1 c1) A ks lw wr) (fun _ _ k _ _ => (intOf k).toNat)
  case atStart => exact ⟨m0, A0, [], _, rfl, rfl, rfl, by simp; omega, HM0.out⟩
  case round =>
    clear HM0 A1 A2 k1 k2
    obtain ⟨m, A, ks, lw, rfl, rfl, rfl, hml, hM⟩ := hrel
    have ML := Lib.hid hml
    have M := Lib.hid hM
    have A1 := hM.a0
    have A2 : A ≤ 100 := by have := hM.a1; omega
    clear hM hml
    rcases (show m = 0 ∨ ∃ j : Nat, m = j + 1 from by cases m with | zero => exact Or.inl rfl | succ j => exact Or.inr ⟨j, rfl⟩) with rfl | ⟨m, rfl⟩
    rotate_left
    · have LF : Hid (ks.length ≤ 100) := Lib.hid (by have := ML.out; omega)
      have L3 : Hid (ks.length ≤ 3) := Lib.hid (by have := ML.out; omega)
      have m3 : (m : Int) ≤ 3 := by have := ML.out; omega
      go_wp2_with fail
      refine (t_path B _ n c _ (by omega) M.out.tape).mono ?_
      rintro e w5 ⟨vp, ps, rfl, hl, sm, ho, ht, hg⟩
      have M5 := Lib.hid (M.out.call ht hg)
      have NE5 : Hid (∀ k, vp.ownBlock = some k → Value.ownBlock u8 ≠ some k) := Lib.hid (fun k hk e => by have := (ho.base k hk).1; have := (M.out.own.base k e).2; omega)
      have P5 := Lib.hid (ho.lower (B' := B + 1) (by have := M.out.sz; omega))
      have SM := Lib.hid sm
      have HL := Lib.hid hl
      clear ht hg ho sm hl
      obtain ⟨aop, capp, rfl⟩ := P5.out.len
      go_wp2_with fail
      refine (t_next B _ 2 _ (by omega) (by omega) M5.out.tape).mono ?_
      rintro e w6 ⟨hw, rfl, h0, h1, ht, hg⟩
      have M6 := Lib.hid (M5.out.call ht hg)
      have P6 := Lib.hid (P5.out.young hg (by omega))
      have HH : Hid (hw = 0 ∨ hw = 1) := Lib.hid (by omega)
      clear ht hg M5 P5 h0 h1
      obtain ⟨XX, hXX⟩ : ∃ X, w6.alloc (.cells (pkCells ⟨A, c, .slice aop ps.length capp, ps, hw, 0, 0, 0, 0⟩) 58) = X := ⟨_, rfl⟩
      obtain ⟨gx, hgx⟩ : ∃ g, w6.heap.size = g := ⟨_, rfl⟩
      have MX : Hid (Mad w B (.slice a1 n1 c1) A ks u8 XX) := Lib.hid (by rw [← hXX]; exact M6.out.alloc _)
      have KX : Hid (Has XX gx (pkCells ⟨A, c, .slice aop ps.length capp, ps, hw, 0, 0, 0, 0⟩) 58) := Lib.hid (by rw [← hXX]; exact has_new hgx)
      have PX : Hid (Pown XX (B + 1) (.slice aop ps.length capp) ps) := Lib.hid (by rw [← hXX]; exact P6.out.alloc _)
      have HXX := Lib.hid hXX
      have HGX := Lib.hid hgx
      clear hXX P6
      go_upto_region 9 with fail
      rw [HXX.out]
      clear hgx
      by_cases hq : od = (m : Int) + 1
      · subst hq
        have o7 : IntKind.i64.wrap ((n : Int) + 1) = (n : Int) + 1 := IntWalk.i64_in _ (by omega)
        have TPN : Hid (∀ w', Tp w' B (.slice a1 n1 c1) → Calls Try.prog 12 #[.pointer (some ⟨B, 0, none⟩), .int .i64 ((n : Int) + 1), .bool c] w' (Pathss w' B (.slice a1 n1 c1) (n + 1) c)) := Lib.hid (fun w' h => t_path B _ (n + 1) c w' (by omega) h)
        go_wp2_with fail
        refine (TPN.out _ MX.out.tape).mono ?_
        rintro e w8 ⟨vq, qs, rfl, hl2, sm2, ho2, ht2, hg2⟩
        have M8 := MX.out.call ht2 hg2
        have K8 := has_grown KX.out hg2 (by have := M6.out.sz; have := HGX.out; omega)
        have P8 := ho2.lower (B' := B + 1) (by have := MX.out.sz; omega)
        have NEX : Hid (∀ k, vq.ownBlock = some k → Value.ownBlock u8 ≠ some k) := Lib.hid (fun k hk e => by have := (ho2.base k hk).1; have := (MX.out.own.base k e).2; omega)
        have gxl : gx < XX.heap.size := KX.out.lt
        have P9x : ∀ k, vq.ownBlock = some k → k ≠ gx := fun k hk => by have := (ho2.base k hk).1; omega
        have SMX := Lib.hid sm2
        have FMX : Hid (∃ n, 1 ≤ n ∧ n ≤ 6 ∧ qs.length = 3 * n + 1) := Lib.hid ⟨n + 1, by omega, by omega, hl2⟩
        obtain ⟨aoq, capq, rfl⟩ := ho2.len
        obtain ⟨YY, hYY⟩ : ∃ Y, (w8.setCell ⟨gx, 1, none⟩ (.bool c)).setCell ⟨gx, 2, none⟩ (.slice aoq qs.length capq) = Y := ⟨_, rfl⟩
        have MY : Hid (Mad w B (.slice a1 n1 c1) A ks u8 YY) := Lib.hid (by rw [← hYY]; exact Mad.set M6.out (Mad.set M6.out M8 (by rw [HGX.out]; exact Nat.le_refl _) _ _) (by rw [HGX.out]; exact Nat.le_refl _) _ _)
        have KY : Hid (Has YY gx (pkCells ⟨A, c, .slice aoq qs.length capq, qs, hw, 0, 0, 0, 0⟩) 58) := Lib.hid (by
          rw [← hYY]
          have := has_set (has_set K8 1 (.bool c)) 2 (.slice aoq qs.length capq)
          simpa using this)
        have PY : Hid (Pown YY (B + 1) (.slice aoq qs.length capq) qs) := Lib.hid (by
          rw [← hYY]
          exact P8.kept (grownBy_set (grownBy_set (World.grownBy.refl _ _) _ _) _ _) (fun k hk e => by simp at hk; exact P9x k e hk.symm))
        have HYY := Lib.hid hYY
        have y1 := K8.cell 1 _ rfl
        have y2 := K8.cell 2 _ rfl
        have yf := has_fro K8
        clear hYY M8 K8 P8 P9x ho2 ht2 hg2 sm2 hl2 MX KX PX NE5 SM HL HXX M6
        go_upto_region 11 with fail
        rw [HYY.out]
        clear y1 y2 yf
        have K5 := KY.out
        have x0 := K5.cell 0 _ rfl
        have x1 := K5.cell 1 _ rfl
        have x2 := K5.cell 2 _ rfl
        have x3 := K5.cell 3 _ rfl
        have x4 := K5.cell 4 _ rfl
        have x5 := K5.cell 5 _ rfl
        have x6 := K5.cell 6 _ rfl
        have x7 := K5.cell 7 _ rfl
        have SZ5 : Hid (B + 1 ≤ (YY.alloc (.cells (pkCells ⟨A, c, (.slice aoq qs.length capq), qs, hw, 0, 0, 0, 0⟩) 58)).heap.size) := Lib.hid (by have := MY.out.sz; simp; omega)
        clear K5
        go_wp2_with (at_builtin; refine wpList_append_pk rfl _ _ rfl LF.out rfl YY.heap.size rfl ⟨A, c, (.slice aoq qs.length capq), qs, hw, 0, 0, 0, 0⟩ ⟨_, _, _, rfl⟩ has_new0 (MY.out.alloc _).own SZ5.out ?_)
        intro g' cap' w6' ho6 hg6 hat6
        have M6' := Lib.hid (fun (A' : Int) (h1 : A + 1 ≤ A') (h2 : A' ≤ A + 5) => Mad.snoc (A' := A') TB.out (MY.out.alloc _) L3.out rfl HH.out ⟨rfl, rfl, rfl, rfl⟩ SMX.out FMX.out (PY.out.alloc _) NEX.out h1 h2 ho6 hg6 (by simpa using hat6))
        clear ho6 hg6 hat6 x0 x1 x2 x3 x4 x5 x6 x7
        have T6 := Lib.hid (M6'.out (A + 1) (by omega) (by omega)).tape
        go_wp2_with fail
        refine (t_next B _ 5 _ (by omega) (by omega) T6.out).mono ?_
        rintro e w7 ⟨z', rfl, z0, z1, ht, hg⟩
        have M7 := Lib.hid ((M6'.out (A + 1 + z') (by omega) (by omega)).call ht hg)
        clear ht hg T6 M6'
        go_wp2
        go_roundw
        case rel => exact ⟨m, A + 1 + z', _, _, by go_num, rfl, rfl, by simp; have := ML.out; omega, M7.out⟩
        case measure => simp [intOf]
      · have hq' : (od == (m : Int) + 1) = false := by simp [hq]
        have SMX : Hid (Small ps) := SM
        have FMX : Hid (∃ n, 1 ≤ n ∧ n ≤ 6 ∧ ps.length = 3 * n + 1) := Lib.hid ⟨n, hn1, by omega, HL.out⟩
        have NEX := NE5
        clear NE5 HXX M6
        go_upto_region 11 with fail
        have K5 := KX.out
        have x0 := K5.cell 0 _ rfl
        have x1 := K5.cell 1 _ rfl
        have x2 := K5.cell 2 _ rfl
        have x3 := K5.cell 3 _ rfl
        have x4 := K5.cell 4 _ rfl
        have x5 := K5.cell 5 _ rfl
        have x6 := K5.cell 6 _ rfl
        have x7 := K5.cell 7 _ rfl
        have SZ5 : Hid (B + 1 ≤ (XX.alloc (.cells (pkCells ⟨A, c, (.slice aop ps.length capp), ps, hw, 0, 0, 0, 0⟩) 58)).heap.size) := Lib.hid (by have := MX.out.sz; simp; omega)
        clear K5
        go_wp2_with (at_builtin; refine wpList_append_pk rfl _ _ rfl LF.out rfl XX.heap.size rfl ⟨A, c, (.slice aop ps.length capp), ps, hw, 0, 0, 0, 0⟩ ⟨_, _, _, rfl⟩ has_new0 (MX.out.alloc _).own SZ5.out ?_)
        intro g' cap' w6' ho6 hg6 hat6
        have M6' := Lib.hid (fun (A' : Int) (h1 : A + 1 ≤ A') (h2 : A' ≤ A + 5) => Mad.snoc (A' := A') TB.out (MX.out.alloc _) L3.out rfl HH.out ⟨rfl, rfl, rfl, rfl⟩ SMX.out FMX.out (PX.out.alloc _) NEX.out h1 h2 ho6 hg6 (by simpa using hat6))
        clear ho6 hg6 hat6 x0 x1 x2 x3 x4 x5 x6 x7
        have T6 := Lib.hid (M6'.out (A + 1) (by omega) (by omega)).tape
        go_wp2_with fail
        refine (t_next B _ 5 _ (by omega) (by omega) T6.out).mono ?_
        rintro e w7 ⟨z', rfl, z0, z1, ht, hg⟩
        have M7 := Lib.hid ((M6'.out (A + 1 + z') (by omega) (by omega)).call ht hg)
        clear ht hg T6 M6'
        go_wp2
        go_roundw
        case rel => exact ⟨m, A + 1 + z', _, _, by go_num, rfl, rfl, by simp; have := ML.out; omega, M7.out⟩
        case measure => simp [intOf]
    · have R : Mades w (.returned u8) wr := ⟨u8, ks, rfl, M.out.made, M.out.own.kl (by have := ML.out; omega) (fun i hi => (M.out.paths i hi).sl (by have := (M.out.made.pos hi).2; omega)), by rw [HB.out]; exact M.out.below⟩
      have RH := Lib.hid R
      clear R M ML
      go_wp2
      go_ret
      exact RH.out

end Go.Proofs.Ytdpfkhliechkhaa

namespace Go.Proofs.Ytdpfkhliechkhaa
open Go.RowKit
open M

theorem pls_setY {ps : List Pt} {n : Nat} (hn : n < ps.length) (y : Int) : pls (ps.set n ⟨(pt ps n).x, y⟩) = (pls ps).set (n * 2 + 1) (.int .i64 y) := by
  induction ps generalizing n with
  | nil => simp at hn
  | cons q ps ih =>
    cases n with
    | zero => simp [pls_cons, pl, pt_zero]
    | succ n =>
      rw [List.set_cons_succ, pls_cons, pls_cons, pt_cons, ih (by simpa using hn), List.set_append_right _ _ (by simp [pl]; omega)]
      congr 2
      simp [pl]; omega
theorem Pown.putY {w : World} {B g cap N n : Nat} {ps : List Pt} (h : Pown w B (.slice (some ⟨g, 0, none⟩) N cap) ps) (hN : ps.length = N) (hn : n < N) (y : Int) :
    Pown (w.setCell ⟨g, n * 2 + 1, none⟩ (.int .i64 y)) B (.slice (some ⟨g, 0, none⟩) N cap) (ps.set n ⟨(pt ps n).x, y⟩) := by
  subst hN
  unfold Pown at h ⊢
  rw [pls_setY hn, List.length_set]
  exact (World.ownsRow.stored h _ _).1
/-- A path of N places of the call's own, in block gp, its list in block gs. -/
structure Pn (w : World) (B N gs gp : Nat) (wr : World) : Prop where
  own : ∃ ps, ps.length = N ∧ Pown wr B (.slice (some ⟨gs, 0, none⟩) N N) ps
  out : Has wr gp #[.bool false, .slice (some ⟨gs, 0, none⟩) N N] 24
  below : Below B w wr
  ne : gs ≠ gp
  lo : B ≤ gs
  sz : B ≤ wr.heap.size
theorem Pn.grown {w wr w' : World} {B N gs gp : Nat} (h : Pn w B N gs gp wr) {row : Option Nat} (hg : wr.grownBy w' row) (h1 : ∀ k, row = some k → k ≠ gs ∧ k ≠ gp ∧ B ≤ k) : Pn w B N gs gp w' := by
  obtain ⟨ps, hl, ho⟩ := h.own
  refine ⟨⟨ps, hl, ho.kept hg (fun k hk e => by have e' : some gs = some k := e; simp at e'; exact (h1 k hk).1 e'.symm)⟩, (hg.block gp h.out.lt (fun e => (h1 gp e.symm).2.1 rfl)).trans h.out, h.below.grown hg h.sz (fun k hk => (h1 k hk).2.2), h.ne, h.lo, Nat.le_trans h.sz hg.size⟩
theorem Pn.call {w wr w' : World} {B N gs gp : Nat} (h : Pn w B N gs gp wr) (hq : Below wr.heap.size wr w') : Pn w B N gs gp w' := h.grown (grownBy_below hq (Nat.le_refl _)) (fun k hk => by cases hk)
theorem Pn.alloc {w wr : World} {B N gs gp : Nat} (h : Pn w B N gs gp wr) (o : Obj) : Pn w B N gs gp (wr.alloc o) := h.grown (World.grownBy_alloc wr o none) (fun k hk => by cases hk)
theorem Pn.put {w wr : World} {B N gs gp n : Nat} (h : Pn w B N gs gp wr) (hn : n < N) (x y : Int) : Pn w B N gs gp ((wr.setCell ⟨gs, n * 2, none⟩ (.int .i64 x)).setCell ⟨gs, n * 2 + 1, none⟩ (.int .i64 y)) := by
  obtain ⟨ps, hl, ho⟩ := h.own
  exact ⟨⟨ps.set n ⟨x, y⟩, by simpa using hl, ho.put hl hn ⟨x, y⟩⟩, has_off1 (has_off1 h.out (Ne.symm h.ne) _ _) (Ne.symm h.ne) _ _, (h.below.setCell h.lo _).setCell h.lo _, h.ne, h.lo, by have := h.sz; simpa using this⟩
theorem Pn.sl {w wr : World} {B N gs gp : Nat} (h : Pn w B N gs gp wr) (hf : N ≤ 1000) : ∃ ps, ps.length = N ∧ Psl wr (.slice (some ⟨gs, 0, none⟩) N N) ps := by
  obtain ⟨ps, hl, ho⟩ := h.own
  exact ⟨ps, hl, ho.sl (by omega)⟩
abbrev five : Array Value := #[.int .i64 67108864, .int .i64 67108865, .int .i64 (-67108864), .int .i64 (-67108865), .int .i64 4611686018427387904]
theorem five_at {w : World} {g j : Nat} {t : TypeId} (h : Has w g five t) (hj : j < 5) : ∃ v : Int, w.cell? ⟨g, j, none⟩ = some (.int .i64 v) := by
  rcases (show j = 0 ∨ j = 1 ∨ j = 2 ∨ j = 3 ∨ j = 4 by omega) with rfl | rfl | rfl | rfl | rfl
  · exact ⟨_, h.cell 0 _ rfl⟩
  · exact ⟨_, h.cell 1 _ rfl⟩
  · exact ⟨_, h.cell 2 _ rfl⟩
  · exact ⟨_, h.cell 3 _ rfl⟩
  · exact ⟨_, h.cell 4 _ rfl⟩
/-- Numbers of the call's own. -/
def Iown (w : World) (base : Nat) (v : Value) (xs : List Int) : Prop := w.ownsRow base 3 1 v xs.length (xs.map (Value.int .i64))
theorem Iown.nums {w : World} {B : Nat} {v : Value} {xs : List Int} (h : Iown w B v xs) (hf : xs.length ≤ 1000) : Nums w v := by
  rcases h.2 with ⟨rfl, hn⟩ | ⟨g, cap, cur, rfl, _, hg, _, _, _, ht⟩
  · exact Or.inl ⟨_, _, rfl⟩
  · by_cases h0 : xs.length = 0
    · rw [h0]; exact Or.inl ⟨_, _, rfl⟩
    · refine Or.inr ⟨g, 0, _, cap, rfl, by omega, by omega, fun i hi => ?_⟩
      have hu : (xs.map (Value.int .i64))[i]? = some (.int .i64 (xs.getD i 0)) := by simp [List.getD, hi]
      refine ⟨xs.getD i 0, ?_⟩
      rw [Nat.zero_add, cell_of_row w g i cur _ _ hg]
      rw [← ht, List.getElem?_take] at hu
      split at hu
      · simpa using hu
      · cases hu
theorem Try.infoInt : (Try.prog.info? 3).map (fun i => (i.zero, i.size, i.bytes)) = some (some (.int .i64 0), 1, 8) := by kernel_rfl

theorem Nums.on {w w' : World} {v : Value} (h : Nums w v) (hb : Below w.heap.size w w') : Nums w' v := by
  rcases h with h | ⟨b, o, n, cap, hv, h0, h1, hc⟩
  · exact Or.inl h
  · refine Or.inr ⟨b, o, n, cap, hv, h0, h1, fun i hi => ?_⟩
    obtain ⟨x, hx⟩ := hc i hi
    exact ⟨x, (hb.cell (p := ⟨b, _, _⟩) (World.block_lt_of_cell? w _ hx)).trans hx⟩
theorem new_one {w : World} {x : Value} {t : TypeId} {g : Nat} (hg : w.heap.size = g) : ∀ j u, [x][j]? = some u → (w.alloc (.cells #[x] t)).cell? ((⟨g, 0, none⟩ : Addr).add j) = some u := by
  intro j u hu
  rw [Addr.add_lit, Nat.zero_add]
  exact (has_new hg).cell j u (by simpa using hu)
theorem Iown.alloc {w : World} {B : Nat} {v : Value} {xs : List Int} (h : Iown w B v xs) (o : Obj) : Iown (w.alloc o) B v xs := World.ownsRow.alloc h o
theorem Iown.base {w : World} {B : Nat} {v : Value} {xs : List Int} (h : Iown w B v xs) (k : Nat) (hk : v.ownBlock = some k) : B ≤ k ∧ k < w.heap.size := World.ownsRow.lt h k hk
theorem ones_one (x : Int) : ∀ u ∈ [Value.int .i64 x], u.oneCell' = true := by
  intro u hu
  simp at hu
  subst hu
  rfl

set_option maxRecDepth 100000 in
set_option maxHeartbeats 4000000 in
theorem pathNumbers_walk (w : World) :
    Calls Try.prog 3 #[] w fun r w' => r = .returned (.bool true) ∧ Below w.heap.size w w' := by
  obtain ⟨i0, hi, hz0, hz1, hz2⟩ := info_parts Try.infoPt
  obtain ⟨j0, hj, hy0, hy1, hy2⟩ := info_parts Try.infoInt
  obtain ⟨B, hB⟩ : ∃ B, w.heap.size = B := ⟨_, rfl⟩
  have HB := Lib.hid hB
  clear hB
  go_enter Try.func3, Try.ntmps3
  go_wp2
  go_loopw [1] (fun i wr => ∃ n : Nat, n ≤ 101 ∧ i = .int .i64 n ∧ Below B w wr) (fun i _ => 101 - (intOf i).toNat)
  case atStart => exact ⟨0, by omega, rfl, Below.refl _ _⟩
  case round =>
    obtain ⟨n, hn, rfl, hb⟩ := hrel
    rename World => v1
    have hsz : B ≤ v1.heap.size := by have := hb.size; have := HB.out; omega
    by_cases hlt : n < 101
    · have mk := make_pts (n := n) (by omega)
      obtain ⟨W, hW⟩ : ∃ W, (v1.alloc (.cells (zer n) 26)).alloc (.cells #[.bool false, .slice (some ⟨v1.heap.size, 0, none⟩) n n] 24) = W := ⟨_, rfl⟩
      obtain ⟨gs, hgs⟩ : ∃ g, v1.heap.size = g := ⟨_, rfl⟩
      have P0 : Pn w B n gs (gs + 1) W := by
        rw [← hW, hgs]
        exact ⟨⟨_, by simp, (own_made (by omega) hsz hgs).alloc _⟩, has_new (by simp [hgs]), (hb.alloc hsz _).alloc (by simp; omega) _, by omega, by omega, by simp; omega⟩
      have HP0 := Lib.hid P0
      rw [hgs] at hW
      have HW := Lib.hid hW
      have p1 := P0.out.cell 1 _ rfl
      have o1 : (n : Int) < 101 := by omega
      clear P0 hW hb hsz
      go_upto_region 5 with fail
      rw [HW.out]
      clear mk hgs
      go_wp2_with fail
      go_loopw [21] (fun i wr => ∃ m : Nat, m ≤ n ∧ i = .int .i64 m ∧ Pn w B n gs (gs + 1) wr) (fun i _ => n - (intOf i).toNat)
      case atStart => exact ⟨0, by omega, rfl, HP0.out⟩
      case round =>
        clear HP0 HW p1
        obtain ⟨m, hm, rfl, hP⟩ := hrel
        rename World => v2
        by_cases hlm : m < n
        · obtain ⟨ps, hl, ho⟩ := hP.own
          have r := ho.row (by omega) (by omega)
          have c0 := r.c0 m (by omega)
          have c1 := r.c1 m (by omega)
          rw [Nat.zero_add] at c0 c1
          have fz := ho.fro hl
          have q1 := hP.out.cell 1 _ rfl
          have R := Lib.hid (hP.put hlm ((m : Int) * 1000) (-(m : Int)))
          have o2 : (m : Int) < n := by omega
          clear r ho hP
          go_wp2
          go_roundw
          case rel => exact ⟨m + 1, by omega, by go_num, R.out⟩
          case measure => simp [intOf]; omega
        · obtain rfl : m = n := by omega
          have o2 : (m : Int) ≤ m := by omega
          have q1 := hP.out.cell 1 _ rfl
          obtain ⟨gl, hgl⟩ : ∃ g, v2.heap.size = g := ⟨_, rfl⟩
          obtain ⟨W3, hW3⟩ : ∃ W, v2.alloc (.cells five 2) = W := ⟨_, rfl⟩
          have P3 : Hid (Pn w B m gs (gs + 1) W3 ∧ Has W3 gl five 2) := Lib.hid (by rw [← hW3]; exact ⟨hP.alloc _, has_new hgl⟩)
          have ngl : gs + 1 < gl := by have := hP.out.lt; omega
          have HW3 := Lib.hid hW3
          obtain ⟨cb, hcb⟩ : ∃ c : Bool, ((m : Int) % 2 == 0) = c := ⟨_, rfl⟩
          clear hW3 hP
          go_wp2_with fail
          rw [HW3.out]
          clear hgl q1 HW3
          go_loopw [36] (fun i wr => ∃ j : Nat, j ≤ 5 ∧ i = .int .i64 j ∧ Pn w B m gs (gs + 1) wr ∧ Has wr gl five 2) (fun i _ => 5 - (intOf i).toNat)
          case atStart => exact ⟨0, by omega, rfl, P3.out⟩
          case round =>
           clear P3
           obtain ⟨j, hj5, rfl, hP, hG⟩ := hrel
           rename World => v3
           by_cases hlj : j < 5
           · obtain ⟨vv, hvv⟩ := five_at hG hlj
             obtain ⟨ps, hl, ho⟩ := hP.own
             have q1 := hP.out.cell 1 _ rfl
             obtain ⟨ge, hge⟩ : ∃ g, v3.heap.size = g := ⟨_, rfl⟩
             have OE : Hid (Pown (v3.alloc (.cells #[] 26)) B (.slice (some ⟨ge, 0, none⟩) 0 0) []) := Lib.hid (by rw [← hge]; exact World.ownsRow_lit v3 #[] 0 hP.sz (by unfold maxLen; omega) rfl)
             have PE := Lib.hid (hP.alloc (.cells #[] 26))
             have GE := Lib.hid (hG.alloc (.cells #[] 26))
             have q2 := fun o => (hP.out.alloc o).cell 1 _ rfl
             have NW : Hid (∀ k u, (pls ps)[k]? = some u → (v3.alloc (.cells #[] 26)).cell? ((⟨gs, 0, none⟩ : Addr).add k) = some u) := Lib.hid (fun k u hu => by
               have hps : 0 < ps.length := by
                 have := (List.getElem?_eq_some_iff.1 hu).1
                 rw [pls_length] at this
                 omega
               rw [Addr.add_lit]
               exact ((ho.alloc _).row (by omega) hps).at k u hu)
             have HL := Lib.hid hl
             have lge : gl < ge := by have := hG.lt; omega
             have BG : Hid (B ≤ ge) := Lib.hid (by have := hP.sz; omega)
             have o4 : (j : Int) < 5 := by omega
             clear hP hG ho hl
             go_wp2_with (at_builtin; refine wpList_append_near _ rfl _ _ 22 rfl B 26 i0 (.agg #[.int .i64 0, .int .i64 0]) 2 16 Try.underlying22 hi hz0 hz1 hz2 rfl (by decide) _ 0 [] rfl OE.out ⟨gs, 0, none⟩ m m (pls ps) rfl ?c1 NW.out (ones_pls ps) ?c3 ?c4 ?c5 ?_)
             case c1 => rw [pls_length, HL.out]
             case c3 => unfold maxLen; omega
             case c4 => omega
             case c5 => have := BG.out; simp; omega
             intro v' w4 hown' hg' hnear
             have OX : Pown w4 B v' ps := by
               unfold Pown
               rw [HL.out]
               simpa using hown'
             have P4 := PE.out.grown hg' (fun k hk => by have e' : some ge = some k := hk; simp at e'; have := BG.out; omega)
             have G4 : Has w4 gl five 2 := (hg'.block gl GE.out.lt (fun e => by have e' : some gl = some ge := e; simp at e'; omega)).trans GE.out
             have s4 : ge < w4.heap.size := by have := hg'.size; simp at this; omega
             have nX : ∀ k, v'.ownBlock = some k → ge ≤ k := fun k hk => by
               rcases hnear with e | ⟨k', e, hk'⟩
               · rw [e] at hk; have e' : some ge = some k := hk; simp at e'; omega
               · rw [e] at hk; simp at hk hk'; omega
             obtain ⟨XV, xcap, exv⟩ := OX.len
             rw [HL.out] at exv
             subst exv
             obtain ⟨gx, hgx⟩ : ∃ g, w4.heap.size = g := ⟨_, rfl⟩
             have OX1 := Lib.hid (OX.alloc (.cells #[.bool cb, .slice XV m xcap] 24))
             have P41 := Lib.hid (P4.alloc (.cells #[.bool cb, .slice XV m xcap] 24))
             have G41 := Lib.hid (G4.alloc (.cells #[.bool cb, .slice XV m xcap] 24))
             have X41 : Hid (Has (w4.alloc (.cells #[.bool cb, .slice XV m xcap] 24)) gx #[.bool cb, .slice XV m xcap] 24) := Lib.hid (has_new hgx)
             have NX := Lib.hid nX
             have NX2 : Hid (∀ k, Value.ownBlock (.slice XV m xcap) = some k → k < gx) := Lib.hid (fun k hk => by have := (OX.base k hk).2; omega)
             have lgx : ge < gx := by omega
             obtain ⟨U0, hU0⟩ : ∃ U, w4.alloc (.cells #[.bool cb, .slice XV m xcap] 24) = U := ⟨_, rfl⟩
             rw [hU0] at OX1 P41 G41 X41
             have HU0 := Lib.hid hU0
             clear hown' hg' hnear OX P4 G4 nX hU0 OE PE GE q1 q2 NW hvv
             go_upto_region 14 with fail
             rw [HU0.out]
             clear hgx hge
             have H00 : B ≤ ge := BG.out
             by_cases hz : m = 0
             · obtain ⟨U, hU⟩ : ∃ U, U0 = U := ⟨_, rfl⟩
               rw [hU] at OX1 P41 G41 X41 ⊢
               have UX := X41
               have UP : Hid (Has U (gs + 1) #[.bool false, .slice (some ⟨gs, 0, none⟩) m m] 24) := Lib.hid P41.out.out
               have UPn := P41
               have UG := G41
               obtain ⟨rs, hrl, hrs⟩ := P41.out.sl (by omega)
               have SP := Lib.hid hrs
               have SX : Hid (Psl U (.slice XV m xcap) ps) := Lib.hid (OX1.out.sl (by rw [HL.out]; omega))
               have H0 : Hid (Ht U U) := Lib.hid (Ht.refl U)
               have oz : ¬ (0 : Int) < m := by omega
               clear hU hrs HU0
               have oy : ¬ 0 < m := by omega
               have HZ := Lib.hid hz
               clear hz
               go_upto_region 16 with fail
               go_region_held3 (fun w' => Ht U w' ∧ w'.cell? ⟨gx, 0, none⟩ = some (.bool cb) ∧ w'.cell? ⟨gx, 1, none⟩ = some (.slice XV m xcap) ∧ w'.cell? ⟨gs + 1, 0, none⟩ = some (.bool false) ∧ w'.cell? ⟨gs + 1, 1, none⟩ = some (.slice (some ⟨gs, 0, none⟩) m m))
                 ((go_split_ands; first | exact Ht.two H0.out.drew UX.out UP.out | exact Ht.two (by assumption) UX.out UP.out))
                 (first
                   | (have mm := h2; clear mm; go_at_call 7; refine (l7_same false cb 21845 327680 9 0 0 0 0 (SP.out.ht h2) (SX.out.ht h2)).mono ?_; rintro e w7 ⟨rfl, hq7⟩; have h3 := Ht.call h2 hq7)
                   | (go_at_call 7; refine (l7_same cb false vv 65536 0 0 65536 0 0 (SX.out.ht h1) (SP.out.ht h1)).mono ?_; rintro e w6 ⟨rfl, hq6⟩; have h2 := Ht.call h1 hq6)
                   | (go_at_call 8; refine (r3_same _).mono ?_; rintro e w5 ⟨rfl, hq5⟩; have h1 := Ht.call H0.out.drew hq5))
               all_goals
                 have R := Lib.hid (UPn.out.call h3.below)
                 have R2 := Lib.hid (UG.out.below h3.below UG.out.lt)
                 clear h1 h2 h3
                 go_wp2
                 go_roundw
                 case rel => exact ⟨j + 1, by omega, by go_num, R.out, R2.out⟩
                 case measure => simp [intOf]; omega
             · obtain ⟨gq, cq, eq⟩ := OX1.out.shape (by rw [HL.out]; omega)
               simp at eq
               obtain ⟨rfl, eqx, rfl⟩ := eq
               clear eqx
               have g1 : ge ≤ gq := NX.out gq rfl
               have g2 : gq < gx := NX2.out gq rfl
               obtain ⟨k, hk⟩ : ∃ k : Nat, (m : Int) / 2 = (k : Int) := ⟨m / 2, by omega⟩
               have hk2 : (m : Int).tdiv 2 = (k : Int) := by rw [Int.tdiv_eq_ediv_of_nonneg (by omega)]; exact hk
               have hkm : k < m := by omega
               have r := OX1.out.row (by rw [HL.out]; omega) (by rw [HL.out]; omega)
               have y1 := r.c1 k (by rw [HL.out]; omega)
               rw [Nat.zero_add] at y1
               have fz := OX1.out.fro HL.out
               have x1 := X41.out.cell 1 _ rfl
               obtain ⟨U, hU⟩ : ∃ U, U0.setCell ⟨gq, k * 2 + 1, none⟩ (.int .i64 vv) = U := ⟨_, rfl⟩
               have hgr : U0.grownBy U (some gq) := by rw [← hU]; exact grownBy_set (World.grownBy.refl _ _) _ _
               have UX : Hid (Has U gx #[.bool cb, .slice (some ⟨gq, 0, none⟩) m xcap] 24) := Lib.hid (has_grown X41.out hgr (by omega))
               have UPn : Hid (Pn w B m gs (gs + 1) U) := Lib.hid (P41.out.grown hgr (fun q hq => by simp at hq; omega))
               have UP : Hid (Has U (gs + 1) #[.bool false, .slice (some ⟨gs, 0, none⟩) m m] 24) := Lib.hid UPn.out.out
               have UG : Hid (Has U gl five 2) := Lib.hid (has_grown G41.out hgr (by omega))
               obtain ⟨rs, hrl, hrs⟩ := UPn.out.sl (by omega)
               have SP := Lib.hid hrs
               have SX : Hid (Psl U (.slice (some ⟨gq, 0, none⟩) m xcap) (ps.set k ⟨(pt ps k).x, vv⟩)) := Lib.hid (by rw [← hU]; exact (OX1.out.putY HL.out hkm vv).sl (by simp [HL.out]; omega))
               have H0 : Hid (Ht U U) := Lib.hid (Ht.refl U)
               have HU := Lib.hid hU
               have oz : (0 : Int) < m := by omega
               have oy : 0 < m := by omega
               have ok : (k : Int) < m := by omega
               clear hU hrs HU0 hgr r
               go_upto_region 16 with fail
               rw [HU.out]
               clear y1 fz x1 hk hk2
               go_region_held3 (fun w' => Ht U w' ∧ w'.cell? ⟨gx, 0, none⟩ = some (.bool cb) ∧ w'.cell? ⟨gx, 1, none⟩ = some (.slice (some ⟨gq, 0, none⟩) m xcap) ∧ w'.cell? ⟨gs + 1, 0, none⟩ = some (.bool false) ∧ w'.cell? ⟨gs + 1, 1, none⟩ = some (.slice (some ⟨gs, 0, none⟩) m m))
                 ((go_split_ands; first | exact Ht.two H0.out.drew UX.out UP.out | exact Ht.two (by assumption) UX.out UP.out))
                 (first
                   | (have mm := h2; clear mm; go_at_call 7; refine (l7_same false cb 21845 327680 9 0 0 0 0 (SP.out.ht h2) (SX.out.ht h2)).mono ?_; rintro e w7 ⟨rfl, hq7⟩; have h3 := Ht.call h2 hq7)
                   | (go_at_call 7; refine (l7_same cb false vv 65536 0 0 65536 0 0 (SX.out.ht h1) (SP.out.ht h1)).mono ?_; rintro e w6 ⟨rfl, hq6⟩; have h2 := Ht.call h1 hq6)
                   | (go_at_call 8; refine (r3_same _).mono ?_; rintro e w5 ⟨rfl, hq5⟩; have h1 := Ht.call H0.out.drew hq5))
               all_goals
                 have R := Lib.hid (UPn.out.call h3.below)
                 have R2 := Lib.hid (UG.out.below h3.below UG.out.lt)
                 clear h1 h2 h3
                 go_wp2
                 go_roundw
                 case rel => exact ⟨j + 1, by omega, by go_num, R.out, R2.out⟩
                 case measure => simp [intOf]; omega
           · obtain rfl : j = 5 := by omega
             have R := Lib.hid hP.below
             clear hP hG
             go_wp2
             go_roundw
             case rel => exact ⟨m + 1, by omega, by go_num, R.out⟩
             case measure => simp [intOf]; omega
    · have on : ¬ (n : Int) < 101 := by omega
      have B1 := Lib.hid hb
      have sB1 : Hid (B ≤ v1.heap.size) := Lib.hid hsz
      clear hb hsz
      go_wp2_with fail
      go_loopw [7] (fun i wr => ∃ k : Nat, k ≤ 30 ∧ i = .int .i64 k ∧ Below B w wr ∧ B ≤ wr.heap.size) (fun i _ => 30 - (intOf i).toNat)
      case atStart => exact ⟨0, by omega, rfl, B1.out, sB1.out⟩
      case round =>
        clear B1 sB1
        obtain ⟨k, hk, rfl, hb, hs⟩ := hrel
        rename World => v4
        have B4 := Lib.hid hb
        have s4 := Lib.hid hs
        clear hb hs
        by_cases hk30 : k < 30
        · have o1 : (k : Int) < 30 := by omega
          go_wp2_with fail
          go_loopw [8, 9] (fun t i wr => ∃ (q : Nat) (xs : List Int), q ≤ 60 ∧ i = .int .i64 q ∧ xs.length = q ∧ Iown wr B t xs ∧ Below B w wr ∧ B ≤ wr.heap.size) (fun _ i _ => 60 - (intOf i).toNat)
          case atStart => exact ⟨0, [], by omega, rfl, rfl, World.ownsRow_nil _ _ _ _, B4.out, s4.out⟩
          case round =>
            clear B4 s4
            obtain ⟨q, xs, hq, rfl, hl, ho, hb, hs⟩ := hrel
            rename World => v5
            by_cases hlt : q < 60
            · have o2 : (q : Int) < 60 := by omega
              have HO := Lib.hid ho
              have HL := Lib.hid hl
              have B5 := Lib.hid hb
              have s5 := Lib.hid hs
              clear ho hl hb hs
              go_wp2_with (at_builtin; refine wpList_append_near _ rfl _ _ 32 rfl B 3 j0 (.int .i64 0) 1 8 Try.underlying32 hj hy0 hy1 hy2 rfl (by decide) _ xs.length (xs.map (Value.int .i64)) rfl (HO.out.alloc _) ⟨v5.heap.size, 0, none⟩ 1 1 [.int .i64 _] rfl rfl (new_one rfl) (ones_one _) ?c3 ?c4 ?c5 ?_)
              case c3 => have := HL.out; unfold maxLen; omega
              case c4 => have := HL.out; omega
              case c5 => have := s5.out; simp; omega
              intro t' w6 hown' hg' hnear
              have R : Hid (∃ ys : List Int, ys.length = q + 1 ∧ Iown w6 B t' ys) := Lib.hid ⟨xs ++ [_], by simp [HL.out], by unfold Iown; simpa using hown'⟩
              have B6 : Hid (Below B w w6 ∧ B ≤ w6.heap.size) := Lib.hid ⟨(B5.out.alloc s5.out _).grown hg' (by have := s5.out; simp; omega) (fun k hk => (HO.out.base k hk).1), by have := hg'.size; have := s5.out; simp at *; omega⟩
              clear hown' hg' hnear HO B5 s5
              go_wp2
              go_roundw
              case rel => obtain ⟨ys, y1, y2⟩ := R.out; exact ⟨q + 1, ys, by omega, by go_num, y1, y2, B6.out.1, B6.out.2⟩
              case measure => simp [intOf]; omega
            · have oq : ¬ (q : Int) < 60 := by omega
              have NU := Lib.hid (ho.nums (by omega))
              have B5 := Lib.hid hb
              have s5 := Lib.hid hs
              clear ho hl hb hs
              go_wp2_with fail
              go_loopw [10] (fun a wr => ∃ A : Int, -1 ≤ A ∧ A ≤ 20 ∧ a = .int .i64 A ∧ Below v5.heap.size v5 wr) (fun a _ => (20 - intOf a).toNat)
              case atStart => exact ⟨-1, by omega, by omega, rfl, Below.refl _ _⟩
              case round =>
                obtain ⟨A, A0, A1, rfl, hb⟩ := hrel
                rename World => v6
                have B6 := Lib.hid hb
                have s6 := Lib.hid hb.size
                have N6 := Lib.hid (NU.out.on hb)
                clear hb
                by_cases hA : A < 20
                · go_wp2_with fail
                  refine (l7_made N6.out _).mono ?_
                  rintro e w7 ⟨v7, ks, rfl, mk7, kl7, hq7⟩
                  have L7 := Lib.hid (And.intro mk7 kl7)
                  have B7 := Lib.hid (B6.out.trans (hq7.mono s6.out))
                  have s7 := Lib.hid (Nat.le_trans s6.out hq7.size)
                  obtain ⟨ao7, cap7, rfl, _, _⟩ := kl7
                  clear mk7 hq7 B6 N6 s6
                  go_wp2_with fail
                  refine (l7_keys L7.out.2 L7.out.1 _).mono ?_
                  rintro e w8 ⟨rfl, hq8⟩
                  have B8 := Lib.hid (B7.out.trans (hq8.mono s7.out))
                  clear hq8 L7 B7 s7
                  go_wp2
                  go_roundw
                  case rel => exact ⟨A + 1, by omega, by omega, by go_num, B8.out⟩
                  case measure => simp [intOf]; omega
                · have B9 : Hid (Below B w v6 ∧ B ≤ v6.heap.size) := Lib.hid ⟨B5.out.trans (B6.out.mono s5.out), by have := s6.out; have := s5.out; omega⟩
                  clear B6 N6 s6
                  go_wp2
                  go_roundw
                  case rel => exact ⟨k + 1, by omega, by go_num, B9.out.1, B9.out.2⟩
                  case measure => simp [intOf]; omega
        · obtain rfl : k = 30 := by omega
          go_wp2_with fail
          refine (known7 _).mono ?_
          rintro e w9 ⟨rfl, hq9⟩
          have B9 := Lib.hid (B4.out.trans (hq9.mono s4.out))
          clear hq9 B4 s4
          go_wp2
          go_ret
          exact ⟨rfl, by rw [HB.out]; exact B9.out⟩

end Go.Proofs.Ytdpfkhliechkhaa

namespace Go.Proofs.Ytdpfkhliechkhaa.pathNumbers
open Go.ChangeShapes Go.WideShapes Go.ChangeAt Go.RowKit

theorem post_below {H : Type} {enc : TypeId × Value → H} {P : Program} {f : Func} {s : ChangeSpec} {apart fresh handsOn : Bool} {W V : World} {args : Array Value} {v : Value} {ds gs : List (DataW H)} {before pa pv : List MemPlace}
    (hW : DataW.Whole enc P f.params.toList s.vars apart W args.toList ds gs before)
    (hres : ∀ (b : Nat) (sp : Nat → Bool) (hd : Bool), DataW.TrodAll enc P V b sp hd f.resultTypes.toList (v.resultList f.resultTypes.size) (s.fn H (ds ++ gs)).results [])
    (hargs : ∀ sp : Nat → Bool, (∀ p ∈ before, sp p.block = true) → DataW.TrodAll enc P V 0 sp true f.params.toList args.toList (s.fn H (ds ++ gs)).args pa)
    (hvars : ∀ sp : Nat → Bool, (∀ p ∈ before, sp p.block = true) → DataW.TrodVars enc P V sp s.vars (s.fn H (ds ++ gs)).vars pv)
    (hps : before = pa ++ pv) (hb : Below W.heap.size W V) : s.post enc P f apart fresh handsOn false W args v V := by
  have hl : ∀ p ∈ before, (fun b => decide (b < W.heap.size)) p.block = true := fun p hp => by simpa using hW.lt p hp
  refine ⟨ds, gs, before, [], pa, pv, hW, hres _ _ _, hargs _ hl, hvars _ hl, World.keptBut_mono (fun p hp => ⟨hp, ?_⟩) (hb.frame (· ∈ before)), fun h => by cases h⟩
  rw [hps, List.mem_append] at hp
  exact Or.inr hp

theorem own : ownKnob Try.prog.godebug = none := by kernel_rfl

set_option maxRecDepth 100000 in
theorem lifted (os : Os) (started : os.Started) (H : Type) (enc : TypeId × Value → H) :
    ReturnsInHanded {} Try.checked os 3 .any (Rows.pathNumbersSpec.pre6 enc Try.prog Try.f3 Rows.pathNumbersRow.domain false) (Rows.pathNumbersSpec.post enc Try.prog Try.f3 false true false false) := by
  refine returnsInHanded_of_change (C := Try.checked) own started (by kernel_rfl) Try.func3
    (ChangeSpec.witness6 (enc := enc) (C := Try.checked) false ⟨#[], #[], []⟩ 8 (by kernel_rfl) (by kernel_rfl) (by kernel_rfl) (by kernel_rfl)) ?_
  intro W base args ds gs before hval0 hW hcnd _
  have hval : ∀ (j : Nat) t v, Try.f3.params[j]? = some t → args[j]? = some v → Value.okWide Try.prog W .any base t v := hval0
  have hW' := hW
  obtain ⟨p, q, hA0, hV, rfl, hfz, hnd⟩ := hW
  have hA : DataW.TrodAll enc Try.prog W 0 (fun _ => true) true Try.f3.params.toList args.toList ds p := hA0
  rw [Try.params3] at hA hval
  obtain ⟨rfl, rfl, rfl⟩ := trodAll_none hA
  obtain ⟨rfl, rfl⟩ := trodVars_none hV
  clear hA0 hval0
  simp only [List.append_nil] at hW'
  refine (pathNumbers_walk W).mono fun e W' ⟨he, hg⟩ => ?_
  subst he
  exact ⟨_, rfl, post_below (pa := []) (pv := []) hW' (fun _ _ _ => (trodAll_cons_mk (shut_bool Try.underlying4 _) trodAll_mk0)) (fun sp _ => rfl) (fun _ _ => rfl) rfl hg⟩

theorem over : Rows.pathNumbersRow.holds Try.pinned (OpenSpec.ofChange Rows.pathNumbersSpec) :=
  OpenClaim.holds_of_wide 3 Try.f3 rfl rfl rfl rfl rfl rfl rfl ⟨rfl, rfl, rfl, rfl, rfl⟩ rfl rfl rfl rfl rfl (by kernel_rfl) Try.func3 (by kernel_rfl)
    (of_decide_eq_true (by kernel_rfl)) (by unfold Func.isWrapper; first | (rw [if_pos (by decide +kernel)]; kernel_rfl) | (rw [if_neg (by decide +kernel)]; exact ⟨rfl, rfl⟩))
    (fun os started H enc _ => lifted os started H enc)

end Go.Proofs.Ytdpfkhliechkhaa.pathNumbers
namespace Go.Proofs.Ytdpfkhliechkhaa
theorem pathNumbers_holds : Rows.PathNumbersSaid := pathNumbers.over
#print axioms pathNumbers_holds
end Go.Proofs.Ytdpfkhliechkhaa
