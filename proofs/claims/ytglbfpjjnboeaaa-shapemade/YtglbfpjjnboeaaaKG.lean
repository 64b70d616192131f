/- Contract of path.Keys on any keys of paths (a hundred at most): whether the keys without their paths are right, and each path is one, right, and fits the first; of the memory nothing that was there turns. -/
import Derived.Test.YtglbfpjjnboeaaaKK7
namespace Go.Proofs.Ytglbfpjjnboeaaa
open Go.RowKit
open M

/-- The first n paths are some, right, and fit the first. -/
def allN (ks : List Pk) : Nat → Bool
  | 0 => true
  | n + 1 => allN ks n && (!decide ((pk ks n).ps.length = 0) && okP (pk ks n).cl (pk ks n).ps && fits (pk ks 0).cl (pk ks 0).ps (pk ks n).cl (pk ks n).ps)
def keysOk (ks : List Pk) : Bool := right (barep ks) && allN ks ks.length
theorem allN_off {ks : List Pk} {n m : Nat} (hm : n + 1 ≤ m) (h : allN ks (n + 1) = false) : allN ks m = false := by
  induction m with
  | zero => omega
  | succ m ih =>
    by_cases e : n = m
    · subst e; exact h
    · have := ih (by omega)
      show (allN ks m && _) = false
      rw [this]
      rfl

set_option maxRecDepth 100000 in
set_option maxHeartbeats 2000000 in
theorem p_keysG {v : Value} {ks : List Pk} {w : World} (h : Kl w v ks) :
    Calls Try.prog 45 #[v] w fun e w' => e = .returned (.bool (keysOk ks)) ∧ Below w.heap.size w w' := by
  have BK := Lib.hid (p_bareKeys h)
  have hs := h
  obtain ⟨ao, cap, rfl, hf, _⟩ := h
  obtain ⟨N, hN⟩ : ∃ N, ks.length = N := ⟨_, rfl⟩
  rw [hN] at hf hs BK ⊢
  have HS := Lib.hid hs
  have HN := Lib.hid hN
  have EK : Hid (keysOk ks = (right (barep ks) && allN ks N)) := Lib.hid (by rw [← hN]; rfl)
  obtain ⟨K, hK⟩ : ∃ K, keysOk ks = K := ⟨_, rfl⟩
  rw [hK] at EK ⊢
  obtain ⟨B, hB⟩ : ∃ B, w.heap.size = B := ⟨_, rfl⟩
  have HB := Lib.hid hB
  by_cases o00 : 32 < N
  · have e : K = false := by rw [EK.out]; unfold right; rw [barep_length, HN.out]; simp; intro _ h; omega
    subst e
    have o0 : (32 : Int) < N := by omega
    clear BK hs hN hB hK
    go_enter Try.func45, Try.ntmps45
    go_wp2
    go_ret
    exact ⟨rfl, by rw [HB.out]; exact Below.refl _ _⟩
  have o0 : (N : Int) ≤ 32 := by omega
  clear hs hN hB hf hK
  go_enter Try.func45, Try.ntmps45
  go_wp2_with fail
  refine BK.out.mono ?_
  rintro e w1 ⟨vb, rfl, hob, hq1⟩
  have S1 := Lib.hid (hob.sl (by rw [barep_length, HN.out]; omega))
  have Q1 : Hid (Below B w w1) := Lib.hid (by rw [← HB.out]; exact hq1)
  have z1 : Hid (B ≤ w1.heap.size) := Lib.hid (by have := hq1.size; have := HB.out; omega)
  clear hob hq1 BK
  go_wp2_with fail
  refine (k_right S1.out).mono ?_
  obtain ⟨b, hb⟩ : ∃ b, right (barep ks) = b := ⟨_, rfl⟩
  rw [hb] at EK ⊢
  clear hb
  rintro e w2 ⟨rfl, hq2⟩
  have Q2 := Lib.hid (Q1.out.trans (hq2.mono z1.out))
  have z2 : Hid (B ≤ w2.heap.size) := Lib.hid (by have := hq2.size; have := z1.out; omega)
  clear hq2 S1 Q1 z1
  cases b
  · have e : K = false := by rw [EK.out]; rfl
    subst e
    go_wp2
    go_ret
    exact ⟨rfl, by rw [HB.out]; exact Q2.out⟩
  have EK : Hid (K = allN ks N) := Lib.hid (by rw [EK.out]; rfl)
  go_wp2_with fail
  go_loopw [4, 16] (fun _ i wr => ∃ n : Nat, n ≤ N ∧ i = .int .i64 n ∧ allN ks n = true ∧ Below B w wr) (fun _ i _ => N - (intOf i).toNat)
  case atStart => exact ⟨0, by omega, rfl, rfl, Q2.out⟩
  case round =>
    clear Q2 z2
    obtain ⟨n, hn, rfl, hst, hb⟩ := hrel
    have HST := Lib.hid hst
    have HBD := Lib.hid hb
    have sz : B ≤ wr.heap.size := by have := hb.size; have := HB.out; omega
    clear hst
    by_cases hlt : n < N
    · obtain ⟨g, o, e1, r0, l0⟩ := HS.out.row (by omega)
      have rr := r0.below hb (by have := r0.lt (by omega); have := HB.out; omega) (by have := HB.out; omega)
      subst e1
      have c0 := rr.c0 n (by omega)
      have c1 := rr.c1 n (by omega)
      have c2 := rr.c2 n (by omega)
      have c3 := rr.c3 n (by omega)
      have c4 := rr.c4 n (by omega)
      have c5 := rr.c5 n (by omega)
      have c6 := rr.c6 n (by omega)
      have c7 := rr.c7 n (by omega)
      have sx := rr.sl n (by omega)
      have s0 := rr.sl 0 (by omega)
      obtain ⟨f, hf⟩ : ∃ f, fits (pk ks 0).cl (pk ks 0).ps (pk ks n).cl (pk ks n).ps = f := ⟨_, rfl⟩
      obtain ⟨x, ex⟩ : ∃ x, pk ks n = x := ⟨_, rfl⟩
      obtain ⟨V, hV⟩ : ∃ V, wr.alloc (.cells (pkCells x) 57) = V := ⟨_, rfl⟩
      have bV : Below wr.heap.size wr V := by rw [← hV]; exact (Below.refl _ _).alloc (Nat.le_refl _) _
      have KX : Has V wr.heap.size (pkCells x) 57 := by rw [← hV]; exact has_new rfl
      have rV := rr.below bV (rr.lt (by omega)) (Nat.le_refl _)
      rw [ex] at c0 c1 c2 c3 c4 c5 c6 c7 sx hf
      obtain ⟨ok, hok⟩ : ∃ b, okP x.cl x.ps = b := ⟨_, rfl⟩
      obtain ⟨em, hem⟩ : ∃ b, decide (x.ps.length = 0) = b := ⟨_, rfl⟩
      have AN : Hid (allN ks (n + 1) = (!em && ok && f)) := Lib.hid (by unfold allN; rw [HST.out, ex, hem, hok, hf]; rfl)
      have r' := fun z => rV.later (by omega) z
      have EM : Hid (∀ z : Later V, Calls Try.prog 61 #[.agg #[.bool x.cl, x.v]] z.to fun e w'' => e = .returned (.bool em) ∧ Below z.to.heap.size z.to w'') := Lib.hid (fun z => by have := p_empty x.cl ((sx.below bV (Nat.le_refl _)).later z); rw [hem] at this; exact this)
      have RT : Hid (∀ z : Later V, Calls Try.prog 62 #[.agg #[.bool x.cl, x.v]] z.to fun e w'' => e = .returned (.bool ok) ∧ Below z.to.heap.size z.to w'') := Lib.hid (fun z => by have := p_right x.cl ((sx.below bV (Nat.le_refl _)).later z); rw [hok] at this; exact this)
      have FT : Hid (∀ z : Later V, Calls Try.prog 56 #[.agg #[.bool (pk ks 0).cl, (pk ks 0).v], .agg #[.bool x.cl, x.v]] z.to fun e w'' => e = .returned (.bool f) ∧ Below z.to.heap.size z.to w'') := Lib.hid (fun z => by have := p_fits (pk ks 0).cl x.cl ((s0.below bV (Nat.le_refl _)).later z) ((sx.below bV (Nat.le_refl _)).later z); rw [hf] at this; exact this)
      have k1 := Later.read KX 1 _ rfl
      have k2 := Later.read KX 2 _ rfl
      have b1 := fun z => (r' z).c1 0 (by omega)
      have b2 := fun z => (r' z).c2 0 (by omega)
      simp only [Nat.zero_mul, Nat.add_zero] at b1 b2
      have hx := sx.shape
      have h0 := s0.shape
      have HV := Lib.hid hV
      have o1 : (n : Int) < N := by omega
      have oz : (0 : Int) < N := by omega
      have oy : 0 < N := by omega
      have BV : Hid (Below B w V) := Lib.hid (HBD.out.trans (bV.mono sz))
      have zV : Hid (B ≤ V.heap.size) := Lib.hid (by have := bV.size; omega)
      obtain ⟨xt, xcl, xv, xps, xh, xa, xb, xcc, xd⟩ := x
      obtain ⟨xo, xn, xc, e1⟩ := hx
      obtain ⟨y, ey⟩ : ∃ x, pk ks 0 = x := ⟨_, rfl⟩
      rw [ey] at h0 FT b1 b2
      obtain ⟨yt, ycl, yv, yps, yh, ya, yb, ycc, yd⟩ := y
      obtain ⟨yo, yn, yc, e2⟩ := h0
      simp only at e1 e2
      subst e1 e2
      simp only at c0 c1 c2 c3 c4 c5 c6 c7
      clear r' rr rV r0 l0 hb sx s0 hok hem hf ex ey hV bV KX HS
      cases em
      case true =>
        have EF : Hid (K = false) := Lib.hid (by rw [EK.out]; exact allN_off (n := n) (by omega) (by rw [AN.out]; rfl))
        go_upto_region 6 with fail
        rw [HV.out]
        clear c0 c1 c2 c3 c4 c5 c6 c7
        refine wp_region_class (C := fun w' => ∃ z : Later V, w' = z.to) (by kernel_rfl) (by kernel_rfl) ⟨⟨_, below_drew (Below.refl _ _)⟩, rfl⟩ ?_
        repeat (go_big_quiet_step (first | (go_at_call 61; exact Later.calls (EM.out _)) | (go_at_call 62; exact Later.calls (RT.out _)) | (go_at_call 56; exact Later.calls (FT.out _))))
        refine wpQuiet_nil ?_
        rintro _ ⟨z, rfl⟩
        have R := Lib.hid (BV.out.trans (z.below.mono zV.out))
        go_wp2
        go_ret
        exact ⟨by rw [EF.out]; rfl, by rw [HB.out]; exact R.out⟩
      case false =>
       cases ok
       case false =>
        have EF : Hid (K = false) := Lib.hid (by rw [EK.out]; exact allN_off (n := n) (by omega) (by rw [AN.out]; rfl))
        go_upto_region 6 with fail
        rw [HV.out]
        clear c0 c1 c2 c3 c4 c5 c6 c7
        refine wp_region_class (C := fun w' => ∃ z : Later V, w' = z.to) (by kernel_rfl) (by kernel_rfl) ⟨⟨_, below_drew (Below.refl _ _)⟩, rfl⟩ ?_
        repeat (go_big_quiet_step (first | (go_at_call 61; exact Later.calls (EM.out _)) | (go_at_call 62; exact Later.calls (RT.out _)) | (go_at_call 56; exact Later.calls (FT.out _))))
        refine wpQuiet_nil ?_
        rintro _ ⟨z, rfl⟩
        have R := Lib.hid (BV.out.trans (z.below.mono zV.out))
        go_wp2
        go_ret
        exact ⟨by rw [EF.out]; rfl, by rw [HB.out]; exact R.out⟩
       case true =>
        cases f
        case false =>
          have EF : Hid (K = false) := Lib.hid (by rw [EK.out]; exact allN_off (n := n) (by omega) (by rw [AN.out]; rfl))
          go_upto_region 6 with fail
          rw [HV.out]
          clear c0 c1 c2 c3 c4 c5 c6 c7
          refine wp_region_class (C := fun w' => ∃ z : Later V, w' = z.to) (by kernel_rfl) (by kernel_rfl) ⟨⟨_, below_drew (Below.refl _ _)⟩, rfl⟩ ?_
          repeat (go_big_quiet_step (first | (go_at_call 61; exact Later.calls (EM.out _)) | (go_at_call 62; exact Later.calls (RT.out _)) | (go_at_call 56; exact Later.calls (FT.out _))))
          refine wpQuiet_nil ?_
          rintro _ ⟨z, rfl⟩
          have R := Lib.hid (BV.out.trans (z.below.mono zV.out))
          go_wp2
          go_ret
          exact ⟨by rw [EF.out]; rfl, by rw [HB.out]; exact R.out⟩
        case true =>
          go_upto_region 6 with fail
          rw [HV.out]
          clear c0 c1 c2 c3 c4 c5 c6 c7
          refine wp_region_class (C := fun w' => ∃ z : Later V, w' = z.to) (by kernel_rfl) (by kernel_rfl) ⟨⟨_, below_drew (Below.refl _ _)⟩, rfl⟩ ?_
          repeat (go_big_quiet_step (first | (go_at_call 61; exact Later.calls (EM.out _)) | (go_at_call 62; exact Later.calls (RT.out _)) | (go_at_call 56; exact Later.calls (FT.out _))))
          refine wpQuiet_nil ?_
          rintro _ ⟨z, rfl⟩
          have R := Lib.hid (BV.out.trans (z.below.mono zV.out))
          obtain ⟨Y, hY⟩ : ∃ Y, z.to = Y := ⟨_, rfl⟩
          rw [hY] at R ⊢
          clear hY k1 k2 b1 b2
          go_wp2
          go_roundw
          case rel => exact ⟨n + 1, by omega, by go_num, by rw [AN.out]; rfl, R.out⟩
          case measure => simp [intOf]; omega
    · obtain rfl : n = N := by omega
      have o1 : (n : Int) ≤ n := by omega
      clear hb
      go_wp2
      go_ret
      exact ⟨by rw [EK.out, HST.out]; rfl, by rw [HB.out]; exact HBD.out⟩

end Go.Proofs.Ytglbfpjjnboeaaa
