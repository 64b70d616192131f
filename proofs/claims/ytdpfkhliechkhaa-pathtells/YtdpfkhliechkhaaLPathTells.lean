/- PathTells of the statements: whatever the numbers are, the call returns true and each argument reads as it did; no condition. -/
import Derived.Test.YtdpfkhliechkhaaRA7
import Derived.Test.YtdpfkhliechkhaaQ8
import Derived.Test.YtdpfkhliechkhaaRR5
import Derived.Test.YtdpfkhliechkhaaTB7
import Derived.Test.YtdpfkhliechkhaaS7
import Derived.Lib.SmallJoins
import Derived.ChangeSame
import Derived.Below
import Derived.Deep.Slices
import Derived.Deep.Fields
import Derived.ChangeArms
import Derived.Test.YtdpfkhliechkhaaT5
import Derived.Test.YtdpfkhliechkhaaRows
import Derived.WalkKit
import Derived.ProofKit
import Derived.OpenShut
import Derived.Carry
namespace Go.Proofs.Ytdpfkhliechkhaa
open Go.RowKit
open M

/-- Keys of paths as a tape makes them. -/
structure Mkd (ks : List Pk) : Prop where
  few : ks.length ≤ 4
  how : ∀ i, i < ks.length → (pk ks i).h = 0 ∨ (pk ks i).h = 1
  plain : ∀ i, i < ks.length → (pk ks i).a = 0 ∧ (pk ks i).b = 0 ∧ (pk ks i).c = 0 ∧ (pk ks i).d = 0
  tick : ∀ i, i < ks.length → 0 ≤ (pk ks i).t ∧ (pk ks i).t ≤ 100
  up : ∀ i, i + 1 < ks.length → (pk ks i).t < (pk ks (i + 1)).t
  small : ∀ i, i < ks.length → Small (pk ks i).ps
  form : ∀ i, i < ks.length → ∃ n, 1 ≤ n ∧ n ≤ 6 ∧ (pk ks i).ps.length = 3 * n + 1
def fitN (ks : List Pk) : Nat → Bool
  | 0 => true
  | n + 1 => fitN ks n && fits (pk ks 0).cl (pk ks 0).ps (pk ks n).cl (pk ks n).ps
theorem fitN_off {ks : List Pk} {n i : Nat} (hi : i < n) (h : fits (pk ks 0).cl (pk ks 0).ps (pk ks i).cl (pk ks i).ps = false) : fitN ks n = false := by
  induction n with
  | zero => omega
  | succ n ih =>
    unfold fitN
    by_cases e : i = n
    · subst e; rw [h]; simp
    · rw [ih (by omega)]; rfl
theorem Mkd.okP {ks : List Pk} (h : Mkd ks) {i : Nat} (hi : i < ks.length) : okP (pk ks i).cl (pk ks i).ps = true := by
  obtain ⟨n, n1, n2, hl⟩ := h.form i hi
  rw [okP_pos (by omega), (h.small i hi).near]
  simp [okLen]
  omega
theorem Mkd.pos {ks : List Pk} (h : Mkd ks) {i : Nat} (hi : i < ks.length) : 0 < (pk ks i).ps.length ∧ (pk ks i).ps.length ≤ 19 := by
  obtain ⟨n, n1, n2, hl⟩ := h.form i hi
  omega
theorem Mkd.okHow {ks : List Pk} (h : Mkd ks) {i : Nat} (hi : i < ks.length) : okHow (pk ks i).h (pk ks i).a (pk ks i).b (pk ks i).c (pk ks i).d = true := by
  obtain ⟨a, b, c, d⟩ := h.plain i hi
  unfold M.okHow
  rw [if_pos (h.how i hi)]
  simp [a, b, c, d]
theorem Mkd.rightN {ks : List Pk} (h : Mkd ks) : ∀ n, n ≤ ks.length → rightN (barep ks) n = true
  | 0, _ => rfl
  | n + 1, hn => by
    have hi : n < ks.length := by omega
    have t1 := h.tick n hi
    unfold M.rightN
    rw [h.rightN n (by omega), ky_barep hi]
    have e : okK (barev (pk ks n) 0) = true := by
      unfold okK barev okIn
      simp only [h.okHow hi]
      simp
      omega
    rw [e]
    by_cases e0 : n = 0
    · simp [e0]
    · rw [ky_barep (by omega)]
      have := h.up (n - 1) (by omega)
      rw [show n - 1 + 1 = n by omega] at this
      have e2 : decide ((barev (pk ks (n - 1)) 0).t < (barev (pk ks n) 0).t) = true := decide_eq_true this
      rw [e2]
      simp
theorem Mkd.right {ks : List Pk} (h : Mkd ks) : right (barep ks) = true := by
  unfold M.right
  rw [barep_length, h.rightN _ (Nat.le_refl _)]
  have := h.few
  simp
  omega
theorem fits_comm (c d : Bool) (ps qs : List Pt) : fits c ps d qs = fits d qs c ps := by
  unfold fits
  rw [show (c == d) = (d == c) by cases c <;> cases d <;> rfl, show decide (ps.length = qs.length) = decide (qs.length = ps.length) by simp [eq_comm]]
theorem Ht.four {W w' : World} {ga g o : Nat} {x : Pk} {ks : List Pk} {t : TypeId} (h : Ht W w') (H0 : Has W ga (pkCells x) t) (r : Krow W g o ks) (hn : 0 < ks.length) :
    Ht W w' ∧ w'.cell? ⟨ga, 1, none⟩ = some (.bool x.cl) ∧ w'.cell? ⟨ga, 2, none⟩ = some x.v ∧ w'.cell? ⟨g, o + 1, none⟩ = some (.bool (pk ks 0).cl) ∧ w'.cell? ⟨g, o + 2, none⟩ = some (pk ks 0).v := by
  have K0 := H0.below h.below H0.lt
  have r' := r.below h.below (r.lt hn) (Nat.le_refl _)
  have a := r'.c1 0 hn
  have b := r'.c2 0 hn
  simp only [Nat.zero_mul, Nat.add_zero] at a b
  exact ⟨h, K0.cell 1 _ rfl, K0.cell 2 _ rfl, a, b⟩

set_option maxHeartbeats 2000000 in
theorem p_keys {v : Value} {ks : List Pk} {w : World} (h : Kl w v ks) (hm : Mkd ks) :
    Calls Try.prog 28 #[v] w fun e w' => e = .returned (.bool (fitN ks ks.length)) ∧ Below w.heap.size w w' := by
  have BK := Lib.hid (p_bareKeys h)
  have hs := h
  obtain ⟨ao, cap, rfl, hf, _⟩ := h
  obtain ⟨N, hN⟩ : ∃ N, ks.length = N := ⟨_, rfl⟩
  have f4 : N ≤ 4 := by rw [← hN]; exact hm.few
  rw [hN] at hf hs BK ⊢
  have HS := Lib.hid hs
  have HN := Lib.hid hN
  have HM := Lib.hid hm
  obtain ⟨B, hB⟩ : ∃ B, w.heap.size = B := ⟨_, rfl⟩
  have HB := Lib.hid hB
  clear hs hN hm hB hf
  have o0 : (N : Int) ≤ 32 := by omega
  go_enter Try.func28, Try.ntmps28
  go_wp2_with fail
  refine BK.out.mono ?_
  rintro e w1 ⟨vb, rfl, hob, hq1⟩
  have S1 := Lib.hid (hob.sl (by rw [barep_length, HN.out]; omega))
  have Q1 : Hid (Below B w w1) := Lib.hid (by rw [← HB.out]; exact hq1)
  have z1 : Hid (B ≤ w1.heap.size) := Lib.hid (by have := hq1.size; have := HB.out; omega)
  clear hob hq1 BK
  go_wp2_with fail
  refine (k_right S1.out).mono ?_
  rw [HM.out.right]
  rintro e w2 ⟨rfl, hq2⟩
  have Q2 := Lib.hid (Q1.out.trans (hq2.mono z1.out))
  have z2 : Hid (B ≤ w2.heap.size) := Lib.hid (by have := hq2.size; have := z1.out; omega)
  clear hq2 S1 Q1 z1
  go_wp2_with fail
  go_loopw [4, 16] (fun _ i wr => ∃ n : Nat, n ≤ N ∧ i = .int .i64 n ∧ fitN ks n = true ∧ Below B w wr) (fun _ i _ => N - (intOf i).toNat)
  case atStart => exact ⟨0, by omega, rfl, rfl, Q2.out⟩
  case round =>
    clear Q2 z2
    obtain ⟨n, hn, rfl, hst, hb⟩ := hrel
    have HST := Lib.hid hst
    have HBD := Lib.hid hb
    have sz : B ≤ wr.heap.size := by have := hb.size; have := HB.out; omega
    clear hst
    by_cases hlt : n < N
    · obtain ⟨g, o, e1, r0, l0⟩ := HS.out.row (by omega)
      have rr := r0.below hb (by have := r0.lt (by omega); have := HB.out; omega) (by have := HB.out; omega)
      subst e1
      have c0 := rr.c0 n (by omega)
      have c1 := rr.c1 n (by omega)
      have c2 := rr.c2 n (by omega)
      have c3 := rr.c3 n (by omega)
      have c4 := rr.c4 n (by omega)
      have c5 := rr.c5 n (by omega)
      have c6 := rr.c6 n (by omega)
      have c7 := rr.c7 n (by omega)
      have sx := rr.sl n (by omega)
      have s0 := rr.sl 0 (by omega)
      have ok := HM.out.okP (i := n) (by omega)
      have ne := (HM.out.pos (i := n) (by omega)).1
      obtain ⟨f, hf⟩ : ∃ f, fits (pk ks 0).cl (pk ks 0).ps (pk ks n).cl (pk ks n).ps = f := ⟨_, rfl⟩
      obtain ⟨x, ex⟩ : ∃ x, pk ks n = x := ⟨_, rfl⟩
      obtain ⟨V, hV⟩ : ∃ V, wr.alloc (.cells (pkCells x) 58) = V := ⟨_, rfl⟩
      have bV : Below wr.heap.size wr V := by rw [← hV]; exact (Below.refl _ _).alloc (Nat.le_refl _) _
      have KX : Has V wr.heap.size (pkCells x) 58 := by rw [← hV]; exact has_new rfl
      have rV := rr.below bV (rr.lt (by omega)) (Nat.le_refl _)
      rw [ex] at c0 c1 c2 c3 c4 c5 c6 c7 sx ok ne hf
      have FF := Lib.hid (by rw [← ex] at hf; exact hf)
      have EM : Hid (∀ w', Ht V w' → Calls Try.prog 22 #[.agg #[.bool x.cl, x.v]] w' fun e w'' => e = .returned (.bool false) ∧ Below w'.heap.size w' w'') := Lib.hid (fun w' h => by have := p_empty x.cl ((sx.below bV (Nat.le_refl _)).ht h); rw [decide_eq_false (by omega)] at this; exact this)
      have RT : Hid (∀ w', Ht V w' → Calls Try.prog 16 #[.agg #[.bool x.cl, x.v]] w' fun e w'' => e = .returned (.bool true) ∧ Below w'.heap.size w' w'') := Lib.hid (fun w' h => by have := p_right x.cl ((sx.below bV (Nat.le_refl _)).ht h); rw [ok] at this; exact this)
      have FT : Hid (∀ w', Ht V w' → Calls Try.prog 20 #[.agg #[.bool (pk ks 0).cl, (pk ks 0).v], .agg #[.bool x.cl, x.v]] w' fun e w'' => e = .returned (.bool f) ∧ Below w'.heap.size w' w'') := Lib.hid (fun w' h => by have := p_fits (pk ks 0).cl x.cl ((s0.below bV (Nat.le_refl _)).ht h) ((sx.below bV (Nat.le_refl _)).ht h); rw [hf] at this; exact this)
      have SS := Lib.hid (fun (w' : World) (h : Ht V w') => h.four KX rV (show 0 < ks.length by omega))
      have hx := sx.shape
      have h0 := s0.shape
      have HV := Lib.hid hV
      have o1 : (n : Int) < N := by omega
      have oz : (0 : Int) < N := by omega
      have oy : 0 < N := by omega
      have H0 : Hid (Ht V V) := Lib.hid (Ht.refl V)
      have BV : Hid (Below B w V) := Lib.hid (HBD.out.trans (bV.mono sz))
      have zV : Hid (B ≤ V.heap.size) := Lib.hid (by have := bV.size; omega)
      obtain ⟨xt, xcl, xv, xps, xh, xa, xb, xcc, xd⟩ := x
      obtain ⟨xo, xn, xc, e1⟩ := hx
      obtain ⟨y, ey⟩ : ∃ x, pk ks 0 = x := ⟨_, rfl⟩
      rw [ey] at h0 SS FT
      obtain ⟨yt, ycl, yv, yps, yh, ya, yb, ycc, yd⟩ := y
      obtain ⟨yo, yn, yc, e2⟩ := h0
      simp only at e1 e2
      subst e1 e2
      simp only at c0 c1 c2 c3 c4 c5 c6 c7
      clear rr r0 l0 hb sx s0 ok ne hf ex ey hV bV KX rV HS
      cases f
      · have EF := Lib.hid (fitN_off hlt FF.out)
        go_upto_region 6 with fail
        rw [HV.out]
        clear c0 c1 c2 c3 c4 c5 c6 c7
        go_region_held3 (fun w' => Ht V w' ∧ w'.cell? ⟨wr.heap.size, 1, none⟩ = some (.bool xcl) ∧ w'.cell? ⟨wr.heap.size, 2, none⟩ = some (.slice xo xn xc) ∧ w'.cell? ⟨g, o + 1, none⟩ = some (.bool ycl) ∧ w'.cell? ⟨g, o + 2, none⟩ = some (.slice yo yn yc))
          ((go_split_ands; first | exact SS.out _ H0.out.drew | exact SS.out _ (by assumption)))
          (first
            | (go_at_call 20; refine (FT.out _ h2).mono ?_; rintro e w3 ⟨rfl, hq3⟩; have h3 := Ht.call h2 hq3)
            | (go_at_call 16; refine (RT.out _ h1).mono ?_; rintro e w2' ⟨rfl, hq2⟩; have h2 := Ht.call h1 hq2)
            | (go_at_call 22; refine (EM.out _ H0.out.drew).mono ?_; rintro e w1' ⟨rfl, hq1⟩; have h1 := Ht.call H0.out.drew hq1))
        all_goals
          have R := Lib.hid (BV.out.trans (h3.below.mono zV.out))
          clear h1 h2 h3
          go_wp2
          go_ret
          exact ⟨by rw [EF.out]; rfl, by rw [HB.out]; exact R.out⟩
      · go_upto_region 6 with fail
        rw [HV.out]
        clear c0 c1 c2 c3 c4 c5 c6 c7
        go_region_held3 (fun w' => Ht V w' ∧ w'.cell? ⟨wr.heap.size, 1, none⟩ = some (.bool xcl) ∧ w'.cell? ⟨wr.heap.size, 2, none⟩ = some (.slice xo xn xc) ∧ w'.cell? ⟨g, o + 1, none⟩ = some (.bool ycl) ∧ w'.cell? ⟨g, o + 2, none⟩ = some (.slice yo yn yc))
          ((go_split_ands; first | exact SS.out _ H0.out.drew | exact SS.out _ (by assumption)))
          (first
            | (go_at_call 20; refine (FT.out _ h2).mono ?_; rintro e w3 ⟨rfl, hq3⟩; have h3 := Ht.call h2 hq3)
            | (go_at_call 16; refine (RT.out _ h1).mono ?_; rintro e w2' ⟨rfl, hq2⟩; have h2 := Ht.call h1 hq2)
            | (go_at_call 22; refine (EM.out _ H0.out.drew).mono ?_; rintro e w1' ⟨rfl, hq1⟩; have h1 := Ht.call H0.out.drew hq1))
        all_goals
          have R := Lib.hid (BV.out.trans (h3.below.mono zV.out))
          clear h1 h2 h3
          go_wp2
          go_roundw
          case rel => exact ⟨n + 1, by omega, by go_num, by unfold fitN; rw [HST.out, FF.out]; rfl, R.out⟩
          case measure => simp [intOf]; omega
    · obtain rfl : n = N := by omega
      have o1 : (n : Int) ≤ n := by omega
      clear hb
      go_wp2
      go_ret
      exact ⟨by rw [HST.out]; rfl, by rw [HB.out]; exact HBD.out⟩

end Go.Proofs.Ytdpfkhliechkhaa

namespace Go.Proofs.Ytdpfkhliechkhaa
open Go.RowKit
open M

set_option maxRecDepth 100000 in
set_option maxHeartbeats 2000000 in
theorem r8_keys {v : Value} {ks : List Pk} {w : World} (h : Kl w v ks) (hm : Mkd ks) :
    Calls Try.prog 29 #[v] w fun e w' => e = .returned (.bool (fitN ks ks.length)) ∧ Below w.heap.size w w' := by
  have hs := h
  obtain ⟨ao, cap, rfl, hf, _⟩ := h
  obtain ⟨N, hN⟩ : ∃ N, ks.length = N := ⟨_, rfl⟩
  have f4 : N ≤ 4 := by rw [← hN]; exact hm.few
  rw [hN] at hf hs ⊢
  have HS := Lib.hid hs
  have HN := Lib.hid hN
  have HM := Lib.hid hm
  obtain ⟨B, hB⟩ : ∃ B, w.heap.size = B := ⟨_, rfl⟩
  have HB := Lib.hid hB
  clear hs hN hm hB hf
  have o0 : (N : Int) ≤ 32 := by omega
  go_enter Try.func29, Try.ntmps29
  go_wp2
  go_loopw [3] (fun i wr => ∃ n : Nat, n ≤ N ∧ i = .int .i64 n ∧ fitN ks n = true ∧ Below B w wr) (fun i _ => N - (intOf i).toNat)
  case atStart => exact ⟨0, by omega, rfl, rfl, Below.refl _ _⟩
  case round =>
    obtain ⟨n, hn, rfl, hst, hb⟩ := hrel
    have HST := Lib.hid hst
    have HBD := Lib.hid hb
    have sz : Hid (B ≤ wr.heap.size) := Lib.hid (by have := hb.size; have := HB.out; omega)
    clear hst
    by_cases hlt : n < N
    · obtain ⟨g, o, e1, r0, l0⟩ := HS.out.row (by omega)
      have rr := r0.below hb (by have := r0.lt (by omega); have := HB.out; omega) (by have := HB.out; omega)
      subst e1
      have r' := fun z => rr.later (by omega) z
      have ok := HM.out.okP (i := n) (by omega)
      have nz := HM.out.pos (i := n) (by omega)
      have oh := HM.out.okHow (i := n) (by omega)
      have tk := HM.out.tick n (by omega)
      obtain ⟨f, hf⟩ : ∃ f, fits (pk ks 0).cl (pk ks 0).ps (pk ks n).cl (pk ks n).ps = f := ⟨_, rfl⟩
      have FF := Lib.hid hf
      have MV : Hid (∀ z : Later wr, Calls Try.prog 49 #[.int .i64 (pk ks n).t, .int .i64 (pk ks n).h, .agg #[.int .i64 (pk ks n).a, .int .i64 (pk ks n).b, .int .i64 (pk ks n).c, .int .i64 (pk ks n).d]] z.to fun e w'' => e = .returned (.bool true) ∧ Below z.to.heap.size z.to w'') := Lib.hid (fun z => by
        have h := r5_moves (pk ks n).t (pk ks n).h (pk ks n).a (pk ks n).b (pk ks n).c (pk ks n).d z.to
        rw [oh, show okIn (pk ks n).t 1073741824 = true by unfold okIn; simp; omega] at h
        exact h)
      have RT : Hid (∀ z : Later wr, Calls Try.prog 21 #[.agg #[.bool (pk ks n).cl, (pk ks n).v]] z.to fun e w'' => e = .returned (.bool true) ∧ Below z.to.heap.size z.to w'') := Lib.hid (fun z => by have h := r8_right (pk ks n).cl ((r' z).sl n (by omega)); rw [ok] at h; exact h)
      have FT : Hid (∀ z : Later wr, Calls Try.prog 23 #[.agg #[.bool (pk ks n).cl, (pk ks n).v], .agg #[.bool (pk ks 0).cl, (pk ks 0).v]] z.to fun e w'' => e = .returned (.bool f) ∧ Below z.to.heap.size z.to w'') := Lib.hid (fun z => by have h := r8_fits (pk ks n).cl (pk ks 0).cl ((r' z).sl n (by omega)) ((r' z).sl 0 (by omega)); rw [fits_comm, hf] at h; exact h)
      have hx : ∃ ao cap, (pk ks n).v = .slice ao (pk ks n).ps.length cap := by obtain ⟨a, b, c, _⟩ := rr.sl n (by omega); exact ⟨a, b, c⟩
      have h0 := (rr.sl 0 (by omega)).shape
      have c0 := fun z => (r' z).c0 n (by omega)
      have c1 := fun z => (r' z).c1 n (by omega)
      have c2 := fun z => (r' z).c2 n (by omega)
      have c3 := fun z => (r' z).c3 n (by omega)
      have c4 := fun z => (r' z).c4 n (by omega)
      have c5 := fun z => (r' z).c5 n (by omega)
      have c6 := fun z => (r' z).c6 n (by omega)
      have c7 := fun z => (r' z).c7 n (by omega)
      have b1 := fun z => (r' z).c1 0 (by omega)
      have b2 := fun z => (r' z).c2 0 (by omega)
      simp only [Nat.zero_mul, Nat.add_zero] at b1 b2
      have o1 : (n : Int) < N := by omega
      have oz : (0 : Int) < N := by omega
      have oy : 0 < N := by omega
      have EF : Hid (f = false → fitN ks N = false) := Lib.hid (fun e => fitN_off hlt (by rw [FF.out]; exact e))
      have NX : Hid (f = true → fitN ks (n + 1) = true) := Lib.hid (fun e => by unfold fitN; rw [HST.out, FF.out, e]; rfl)
      by_cases hz : n = 0
      · subst hz
        simp only [Nat.zero_mul, Nat.add_zero] at c0 c1 c2 c3 c4 c5 c6 c7
        obtain ⟨x, ex⟩ : ∃ x, pk ks 0 = x := ⟨_, rfl⟩
        rw [ex] at c0 c1 c2 c3 c4 c5 c6 c7 b1 b2 hx nz
        simp only [ex] at MV RT FT
        clear r' rr r0 l0 hb ok oh tk hf FF h0 HS ex b1 b2 o1
        obtain ⟨xt, xcl, xv, xps, xh, xa, xb, xcc, xd⟩ := x
        obtain ⟨xo, xc, e1⟩ := hx
        simp only at e1 nz
        subst e1
        obtain ⟨L, hL⟩ : ∃ L, xps.length = L := ⟨_, rfl⟩
        have nz1 : ((L : Int) == 0) = false := eqz (by omega)
        have nz2 : ¬ (L : Int) = 0 := by omega
        simp only [hL] at c2 RT FT
        clear nz hL
        cases f
        · have EG := Lib.hid (EF.out rfl)
          clear EF NX
          go_wp2_with fail
          refine wp_region_class (C := fun w' => ∃ z : Later wr, w' = z.to) (by kernel_rfl) (by kernel_rfl) ⟨⟨_, below_drew (Below.refl _ _)⟩, rfl⟩ ?_
          repeat (go_big_quiet_step (first | (go_at_call 49; exact Later.calls (MV.out _)) | (go_at_call 21; exact Later.calls (RT.out _)) | (go_at_call 23; exact Later.calls (FT.out _))))
          refine wpQuiet_nil ?_
          rintro _ ⟨z, rfl⟩
          go_wp2
          go_ret
          exact ⟨by rw [EG.out]; rfl, by rw [HB.out]; exact HBD.out.trans (z.below.mono sz.out)⟩
        · have NG := Lib.hid (NX.out rfl)
          clear EF NX
          go_wp2_with fail
          refine wp_region_class (C := fun w' => ∃ z : Later wr, w' = z.to) (by kernel_rfl) (by kernel_rfl) ⟨⟨_, below_drew (Below.refl _ _)⟩, rfl⟩ ?_
          repeat (go_big_quiet_step (first | (go_at_call 49; exact Later.calls (MV.out _)) | (go_at_call 21; exact Later.calls (RT.out _)) | (go_at_call 23; exact Later.calls (FT.out _))))
          refine wpQuiet_nil ?_
          rintro _ ⟨z, rfl⟩
          have Z := Lib.hid (HBD.out.trans (z.below.mono sz.out))
          obtain ⟨Y, hY⟩ : ∃ Y, z.to = Y := ⟨_, rfl⟩
          rw [hY] at Z ⊢
          clear hY c0 c1 c2 c3 c4 c5 c6 c7
          go_wp2
          go_roundw
          case rel => exact ⟨1, by omega, by go_num, NG.out, Z.out⟩
          case measure => simp [intOf]; omega
      · obtain ⟨m, hm⟩ : ∃ m : Nat, n = m + 1 := ⟨n - 1, by omega⟩
        have e1 : (n : Int) - 1 = (m : Int) := by omega
        have e2 : IntKind.i64.wrap ((n : Int) - 1) = (m : Int) := by rw [e1]; exact IntWalk.i64_in _ (by omega)
        have o2 : (m : Int) < N := by omega
        have o3 : 0 < n := by omega
        have d0 := fun z => (r' z).c0 m (by omega)
        have hup := HM.out.up m (by omega)
        rw [← hm] at hup
        obtain ⟨x, ex⟩ : ∃ x, pk ks n = x := ⟨_, rfl⟩
        obtain ⟨y, ey⟩ : ∃ x, pk ks 0 = x := ⟨_, rfl⟩
        obtain ⟨T, eT⟩ : ∃ T, (pk ks m).t = T := ⟨_, rfl⟩
        rw [ex] at c0 c1 c2 c3 c4 c5 c6 c7 hx nz hup
        rw [ey] at b1 b2 h0
        rw [eT] at d0 hup
        simp only [ex] at MV RT FT
        simp only [ey] at FT
        clear r' rr r0 l0 hb ok oh tk hf FF HS ex ey eT hm
        obtain ⟨xt, xcl, xv, xps, xh, xa, xb, xcc, xd⟩ := x
        obtain ⟨yt, ycl, yv, yps, yh, ya, yb, ycc, yd⟩ := y
        obtain ⟨xo, xc, ex1⟩ := hx
        obtain ⟨yo, yn, yc, ey1⟩ := h0
        simp only at ex1 nz ey1 hup
        subst ex1 ey1
        obtain ⟨L, hL⟩ : ∃ L, xps.length = L := ⟨_, rfl⟩
        have nz1 : ((L : Int) == 0) = false := eqz (by omega)
        have nz2 : ¬ (L : Int) = 0 := by omega
        simp only [hL] at c2 RT FT
        have hup2 : decide (xt ≤ T) = false := decide_eq_false (by omega)
        clear nz hL
        cases f
        · have EG := Lib.hid (EF.out rfl)
          clear EF NX
          go_wp2_with fail
          refine wp_region_class (C := fun w' => ∃ z : Later wr, w' = z.to) (by kernel_rfl) (by kernel_rfl) ⟨⟨_, below_drew (Below.refl _ _)⟩, rfl⟩ ?_
          repeat (go_big_quiet_step (first | (go_at_call 49; exact Later.calls (MV.out _)) | (go_at_call 21; exact Later.calls (RT.out _)) | (go_at_call 23; exact Later.calls (FT.out _))))
          refine wpQuiet_nil ?_
          rintro _ ⟨z, rfl⟩
          go_wp2
          go_ret
          exact ⟨by rw [EG.out]; rfl, by rw [HB.out]; exact HBD.out.trans (z.below.mono sz.out)⟩
        · have NG := Lib.hid (NX.out rfl)
          clear EF NX
          go_wp2_with fail
          refine wp_region_class (C := fun w' => ∃ z : Later wr, w' = z.to) (by kernel_rfl) (by kernel_rfl) ⟨⟨_, below_drew (Below.refl _ _)⟩, rfl⟩ ?_
          repeat (go_big_quiet_step (first | (go_at_call 49; exact Later.calls (MV.out _)) | (go_at_call 21; exact Later.calls (RT.out _)) | (go_at_call 23; exact Later.calls (FT.out _))))
          refine wpQuiet_nil ?_
          rintro _ ⟨z, rfl⟩
          have Z := Lib.hid (HBD.out.trans (z.below.mono sz.out))
          obtain ⟨Y, hY⟩ : ∃ Y, z.to = Y := ⟨_, rfl⟩
          rw [hY] at Z ⊢
          clear hY c0 c1 c2 c3 c4 c5 c6 c7 d0 b1 b2
          go_wp2
          go_roundw
          case rel => exact ⟨n + 1, by omega, by go_num, NG.out, Z.out⟩
          case measure => simp [intOf]; omega
    · obtain rfl : n = N := by omega
      have o1 : (n : Int) ≤ n := by omega
      clear hb
      go_wp2
      go_ret
      exact ⟨by rw [HST.out]; rfl, by rw [HB.out]; exact HBD.out⟩

/-- The share between two keys of a tape is what the document says. -/
theorem share_eq {x y : Pk} {t : Int} (hh : x.h = 0 ∨ x.h = 1) (h1 : x.t ≤ t) (h2 : ¬ y.t ≤ t) : atk [barev x 0, barev y 65536] t 0 = goes x.h x.a x.b x.c x.d (prt x.t y.t t) := by
  have e1 : ky [barev x 0, barev y 65536] 0 = barev x 0 := rfl
  have e2 : ky [barev x 0, barev y 65536] 1 = barev y 65536 := rfl
  have f : find [barev x 0, barev y 65536] t = 0 := by
    unfold find
    show findN _ t 2 = 0
    rw [findN_miss (by rw [e2]; exact h2), findN_hit (by rw [e1]; exact h1)]
    rfl
  unfold atk
  rw [f]
  rw [if_neg (by simp), if_neg (by decide), if_neg (by simp)]
  show tween (ky _ 0) (ky _ 1) t = _
  rw [e1, e2]
  unfold tween
  show mid 0 65536 (goes x.h x.a x.b x.c x.d (prt x.t y.t t)) = _
  have pb := prt_bd x.t y.t t
  have gb := goes_bd (h := x.h) (a := x.a) (b := x.b) (c := x.c) (d := x.d) (by omega) (by omega) pb.1 pb.2
  rw [mid_small (by omega) (by omega) (by omega) (by omega) gb.1 gb.2]
  omega
theorem find_hit {ks : List Ky} {t : Int} {n i : Nat} (h : findN ks t n = (i : Int)) : (ky ks i).t ≤ t ∧ ∀ j, i < j → j < n → ¬ (ky ks j).t ≤ t := by
  induction n with
  | zero => exfalso; unfold findN at h; omega
  | succ n ih =>
    by_cases hc : (ky ks n).t ≤ t
    · rw [findN_hit hc] at h
      have e : n = i := by omega
      subst e
      exact ⟨hc, fun j h1 h2 => by omega⟩
    · rw [findN_miss hc] at h
      obtain ⟨a, b⟩ := ih h
      refine ⟨a, fun j h1 h2 => ?_⟩
      by_cases e : j = n
      · subst e; exact hc
      · exact b j h1 (by omega)
theorem Mkd.same {ks : List Pk} (h : Mkd ks) (t : Int) : atps ks t = ratps ks t := by
  by_cases h0 : ks.length = 0
  · unfold atps ratps; rw [if_pos h0, if_pos h0]
  · have self : ∀ i, i < ks.length → morph (pk ks i).cl (pk ks i).ps (pk ks i).cl (pk ks i).ps 0 = (pk ks i).ps := fun i hi => by
      rw [morph_yes (by rw [fits_eq rfl]; simp)]
      exact midL_zero (h.small i hi) (h.small i hi) rfl
    rcases atp_cases ks t (by omega) with ⟨f1, _, f3⟩ | ⟨i, f1, f4, _, f3⟩ | ⟨i, f1, f4, _, f3⟩
    · rcases ratp_cases ks t (by omega) with ⟨g1, _, g3⟩ | ⟨j, g1, g4, _, g3⟩ | ⟨j, g1, g4, _, g3⟩
      · rw [f3, g3, self 0 (by omega)]
      · omega
      · omega
    · rcases ratp_cases ks t (by omega) with ⟨g1, _, g3⟩ | ⟨j, g1, g4, _, g3⟩ | ⟨j, g1, g4, _, g3⟩
      · omega
      · have e : i = j := by omega
        subst e
        rw [f3, g3, self i (by omega)]
      · omega
    · rcases ratp_cases ks t (by omega) with ⟨g1, _, g3⟩ | ⟨j, g1, g4, _, g3⟩ | ⟨j, g1, g4, _, g3⟩
      · omega
      · omega
      · have e : i = j := by omega
        subst e
        have hh := f1
        unfold find at hh
        rw [barep_length] at hh
        obtain ⟨a, b⟩ := find_hit hh
        have b1 := b (i + 1) (by omega) f4
        rw [ky_barep (by omega)] at a b1
        rw [f3, g3, share_eq (h.how i (by omega)) a b1]
theorem atps_few {ks : List Pk} (h : Mkd ks) (t : Int) : (atps ks t).length ≤ 1000 := by
  by_cases h0 : ks.length = 0
  · unfold atps; rw [if_pos h0]; simp
  · rcases atp_cases ks t (by omega) with ⟨f1, _, f3⟩ | ⟨i, f1, f4, _, f3⟩ | ⟨i, f1, f4, _, f3⟩
    · rw [f3]; have := (h.pos (i := 0) (by omega)).2; omega
    · rw [f3]; have := (h.pos (i := i) (by omega)).2; omega
    · rw [f3, morph_length]; have := (h.pos (i := i) (by omega)).2; omega
theorem same_d (c : Bool) (ps : List Pt) : ((c == c) && decide (ps = ps)) = true := by simp

set_option maxHeartbeats 1000000 in
theorem l7_keys {v : Value} {ks : List Pk} {w : World} (h : Kl w v ks) (hm : Mkd ks) (t : Int) :
    Calls Try.prog 9 #[v, .int .i64 t] w fun e w' => e = .returned (.bool true) ∧ Below w.heap.size w w' := by
  have HL := Lib.hid h
  obtain ⟨f, hf⟩ : ∃ f, fitN ks ks.length = f := ⟨_, rfl⟩
  have K1 := p_keys h hm
  rw [hf] at K1
  have HK1 := Lib.hid K1
  have HM := Lib.hid hm
  have HF := Lib.hid hf
  obtain ⟨ao, cap, rfl, _, _⟩ := h
  clear K1 hf hm
  go_enter Try.func9, Try.ntmps9
  go_wp2_with fail
  refine HK1.out.mono ?_
  rintro e w1 ⟨rfl, hq1⟩
  have L1 := HL.out.below hq1
  have K2 := r8_keys L1 HM.out
  rw [HF.out] at K2
  have HK2 := Lib.hid K2
  have HL1 := Lib.hid L1
  have Q1 := Lib.hid hq1
  clear K2 L1 hq1 HK1 HL
  go_wp2_with fail
  refine HK2.out.mono ?_
  rintro e w2 ⟨rfl, hq2⟩
  have L2 := HL1.out.below hq2
  have HL2 := Lib.hid L2
  have Q2 := Lib.hid (Q1.out.trans (hq2.mono Q1.out.size))
  clear L2 hq2 HK2 HL1 Q1
  go_wp2_with fail
  refine (p_at HL2.out t).mono ?_
  rintro e w3 ⟨v3, rfl, ho3, hq3⟩
  have L3 := Lib.hid (HL2.out.below hq3)
  have Q3 := Lib.hid (Q2.out.trans (hq3.mono Q2.out.size))
  have O3 := Lib.hid (ho3.sl (atps_few HM.out t))
  obtain ⟨ao3, cap3, rfl⟩ := ho3.len
  clear ho3 hq3 HL2 Q2
  go_wp2_with fail
  refine (r8_at L3.out t).mono ?_
  rw [← HM.out.same t]
  rintro e w4 ⟨v4, rfl, ho4, hq4⟩
  have Q4 := Lib.hid (Q3.out.trans (hq4.mono Q3.out.size))
  have O4 := Lib.hid (O3.out.below hq4 (Nat.le_refl _))
  have P4 := Lib.hid (ho4.sl (atps_few HM.out t))
  obtain ⟨ao4, cap4, rfl⟩ := ho4.len
  clear ho4 hq4 L3 Q3 O3
  go_wp2_with fail
  refine (r8_same (atcl ks t) (atcl ks t) O4.out P4.out).mono ?_
  rw [same_d]
  rintro e w5 ⟨rfl, hq5⟩
  have Q5 := Lib.hid (Q4.out.trans (hq5.mono Q4.out.size))
  clear hq5 Q4 O4 P4
  go_wp2
  go_ret
  exact ⟨rfl, Q5.out⟩

end Go.Proofs.Ytdpfkhliechkhaa

namespace Go.Proofs.Ytdpfkhliechkhaa
open Go Go.RowKit
open M

def pkl (k : Pk) : List Value := [.int .i64 k.t, .bool k.cl, k.v, .int .i64 k.h, .int .i64 k.a, .int .i64 k.b, .int .i64 k.c, .int .i64 k.d]
def pkls (ks : List Pk) : List Value := ks.flatMap pkl
theorem pkls_cons (k : Pk) (ks : List Pk) : pkls (k :: ks) = pkl k ++ pkls ks := by simp [pkls]
theorem pkls_snoc (ks : List Pk) (k : Pk) : pkls (ks ++ [k]) = pkls ks ++ pkl k := by simp [pkls]
theorem pkls_at {ks : List Pk} {i j : Nat} (hi : i < ks.length) (hj : j < 8) : (pkls ks)[i * 8 + j]? = (pkl (pk ks i))[j]? := by
  induction ks generalizing i with
  | nil => simp at hi
  | cons k ks ih =>
    rw [pkls_cons]
    cases i with
    | zero => rw [pk_zero, Nat.zero_mul, Nat.zero_add, List.getElem?_append_left (by simpa [pkl] using hj)]
    | succ i =>
      rw [pk_cons, List.getElem?_append_right (by simp [pkl]; omega)]
      rw [← ih (by simpa using hi)]
      congr 1
      simp [pkl]; omega
def Kown (w : World) (base : Nat) (v : Value) (ks : List Pk) : Prop := w.ownsRow base 58 8 v ks.length (pkls ks)
theorem Kown.base {w : World} {B : Nat} {v : Value} {ks : List Pk} (h : Kown w B v ks) (k : Nat) (hk : v.ownBlock = some k) : B ≤ k ∧ k < w.heap.size := World.ownsRow.lt h k hk
theorem Kown.kept {w w' : World} {B : Nat} {v : Value} {ks : List Pk} {row : Option Nat} (h : Kown w B v ks) (hg : w.grownBy w' row) (hr : ∀ k, row = some k → v.ownBlock ≠ some k) : Kown w' B v ks := by
  refine World.ownsRow.kept h hg ?_
  by_cases e : v.ownBlock = none
  · exact Or.inl e
  · refine Or.inr fun e2 => ?_
    cases hrow : row with
    | none => rw [hrow] at e2; exact e e2
    | some k => rw [hrow] at e2; exact hr k hrow e2
theorem Kown.kl {w : World} {B : Nat} {v : Value} {ks : List Pk} (h : Kown w B v ks) (hf : ks.length ≤ 100) (hp : ∀ i, i < ks.length → Psl w (pk ks i).v (pk ks i).ps) : Kl w v ks := by
  rcases h.2 with ⟨rfl, hn⟩ | ⟨g, cap, cur, rfl, _, hg, _, _, _, ht⟩
  · exact ⟨none, 0, by rw [hn], hf, fun h0 => by omega⟩
  · refine ⟨_, cap, rfl, hf, fun _ => ⟨g, 0, rfl, ?_⟩⟩
    have key : ∀ i j u, i < ks.length → j < 8 → (pkl (pk ks i))[j]? = some u → w.cell? ⟨g, 0 + i * 8 + j, none⟩ = some u := by
      intro i j u hi hj hu
      have hu := (pkls_at hi hj).trans hu
      rw [Nat.zero_add, cell_of_row w g _ cur _ _ hg]
      rw [← ht, List.getElem?_take] at hu
      split at hu
      · simpa using hu
      · cases hu
    exact ⟨hf, hp, fun i hi => key i 0 _ hi (by omega) rfl, fun i hi => key i 1 _ hi (by omega) rfl, fun i hi => key i 2 _ hi (by omega) rfl, fun i hi => key i 3 _ hi (by omega) rfl, fun i hi => key i 4 _ hi (by omega) rfl, fun i hi => key i 5 _ hi (by omega) rfl, fun i hi => key i 6 _ hi (by omega) rfl, fun i hi => key i 7 _ hi (by omega) rfl⟩
theorem Try.infoPk : (Try.prog.info? 58).map (fun i => (i.zero, i.size, i.bytes)) = some (some (.agg #[.int .i64 0, .bool false, .slice none 0 0, .int .i64 0, .int .i64 0, .int .i64 0, .int .i64 0, .int .i64 0]), 8, 80) := by kernel_rfl

/-- The keys so far: the list lv, each path's own list, the tape in block B, all ticks ahead of A. -/
structure Mad (w : World) (B : Nat) (tp : Value) (A : Int) (ks : List Pk) (lv : Value) (wr : World) : Prop where
  own : Kown wr (B + 1) lv ks
  paths : ∀ i, i < ks.length → Pown wr (B + 1) (pk ks i).v (pk ks i).ps
  ne : ∀ i, i < ks.length → ∀ k, (pk ks i).v.ownBlock = some k → lv.ownBlock ≠ some k
  tape : Tp wr B tp
  below : Below B w wr
  sz : B + 1 ≤ wr.heap.size
  made : Mkd ks
  last : ∀ i, i < ks.length → (pk ks i).t < A
  a0 : 0 ≤ A
  a1 : A ≤ 3 + 5 * ks.length
theorem Mad.call {w wr w2 : World} {B : Nat} {tp lv : Value} {A : Int} {ks : List Pk} (h : Mad w B tp A ks lv wr) (ht : Tp w2 B tp) (hg : wr.grownBy w2 (some B)) : Mad w B tp A ks lv w2 :=
  ⟨h.own.kept hg (fun k hk e => by simp at hk; have := (h.own.base k e).1; omega), fun i hi => (h.paths i hi).young hg (by omega), h.ne, ht, below_on h.below hg (Nat.le_refl _) (by have := h.sz; omega), by have := hg.size; have := h.sz; omega, h.made, h.last, h.a0, h.a1⟩
theorem Mad.alloc {w wr : World} {B : Nat} {tp lv : Value} {A : Int} {ks : List Pk} (h : Mad w B tp A ks lv wr) (o : Obj) : Mad w B tp A ks lv (wr.alloc o) :=
  ⟨h.own.kept (World.grownBy_alloc wr o none) (fun k hk => by cases hk), fun i hi => (h.paths i hi).alloc o, h.ne, tp_alloc h.tape o, h.below.alloc (by have := h.sz; omega) o, by have := h.sz; simp; omega, h.made, h.last, h.a0, h.a1⟩
theorem Mad.set {w w0 wr : World} {B : Nat} {tp lv : Value} {A : Int} {ks : List Pk} (h0 : Mad w B tp A ks lv w0) (h : Mad w B tp A ks lv wr) {k : Nat} (hk : w0.heap.size ≤ k) (j : Nat) (u : Value) : Mad w B tp A ks lv (wr.setCell ⟨k, j, none⟩ u) := by
  have hs : wr.grownBy (wr.setCell ⟨k, j, none⟩ u) (some k) := grownBy_set (World.grownBy.refl _ _) _ _
  have hz := h0.sz
  exact ⟨h.own.kept hs (fun i hi e => by simp at hi; have := (h0.own.base i e).2; omega), fun i hi => (h.paths i hi).kept hs (fun q hq e => by simp at hq; have := ((h0.paths i hi).base q e).2; omega), h.ne, h0.tape.young h.tape hs (fun i hi => by simp at hi; omega), h.below.setCell (by show B ≤ k; omega) _, by have := h.sz; simpa using this, h.made, h.last, h.a0, h.a1⟩
theorem Mkd.snoc {ks : List Pk} (h : Mkd ks) {x : Pk} {A : Int} (hl : ks.length ≤ 3) (hA : ∀ i, i < ks.length → (pk ks i).t < A) (ht : x.t = A) (a0 : 0 ≤ A) (a1 : A ≤ 100) (hh : x.h = 0 ∨ x.h = 1) (hp : x.a = 0 ∧ x.b = 0 ∧ x.c = 0 ∧ x.d = 0) (hs : Small x.ps) (hf : ∃ n, 1 ≤ n ∧ n ≤ 6 ∧ x.ps.length = 3 * n + 1) : Mkd (ks ++ [x]) := by
  have each : ∀ (P : Pk → Prop), (∀ i, i < ks.length → P (pk ks i)) → P x → ∀ i, i < (ks ++ [x]).length → P (pk (ks ++ [x]) i) := by
    intro P h1 h2 i hi
    simp at hi
    by_cases e : i < ks.length
    · rw [pk_left e]; exact h1 i e
    · obtain rfl : i = ks.length := by omega
      rw [pk_last]; exact h2
  refine ⟨by simp; omega, each (fun k => k.h = 0 ∨ k.h = 1) h.how hh, each (fun k => k.a = 0 ∧ k.b = 0 ∧ k.c = 0 ∧ k.d = 0) h.plain hp, each (fun k => 0 ≤ k.t ∧ k.t ≤ 100) h.tick (by omega), ?_, each (fun k => Small k.ps) h.small hs, each (fun k => ∃ n, 1 ≤ n ∧ n ≤ 6 ∧ k.ps.length = 3 * n + 1) h.form hf⟩
  intro i hi
  simp at hi
  by_cases e : i + 1 < ks.length
  · rw [pk_left e, pk_left (by omega)]; exact h.up i e
  · have e2 : i + 1 = ks.length := by omega
    rw [pk_left (by omega), e2, pk_last, ht]
    exact hA i (by omega)
theorem Mad.snoc {w W w' : World} {B g' cap' : Nat} {tp lv : Value} {A A' : Int} {ks : List Pk} {x : Pk} (hT : ∃ wb, Tp wb B tp ∧ wb.heap.size = B + 1) (h : Mad w B tp A ks lv W) (hl : ks.length ≤ 3) (ht : x.t = A) (hh : x.h = 0 ∨ x.h = 1) (hp : x.a = 0 ∧ x.b = 0 ∧ x.c = 0 ∧ x.d = 0) (hs : Small x.ps) (hf : ∃ n, 1 ≤ n ∧ n ≤ 6 ∧ x.ps.length = 3 * n + 1)
    (hx : Pown W (B + 1) x.v x.ps) (hne : ∀ k, x.v.ownBlock = some k → lv.ownBlock ≠ some k) (A1 : A + 1 ≤ A') (A2 : A' ≤ A + 5)
    (ho : w'.ownsRow (B + 1) 58 8 (.slice (some ⟨g', 0, none⟩) (ks.length + 1) cap') (ks.length + 1) (pkls ks ++ pkl x)) (hg : W.grownBy w' lv.ownBlock) (hat : lv.ownBlock = some g' ∨ g' = W.heap.size) :
    Mad w B tp A' (ks ++ [x]) (.slice (some ⟨g', 0, none⟩) (ks.length + 1) cap') w' := by
  have b0 := h.a0
  have b1 := h.a1
  have hsz := h.sz
  have hrow : ∀ k, lv.ownBlock = some k → B + 1 ≤ k := fun k hk => (h.own.base k hk).1
  obtain ⟨wb, hwb, hwz⟩ := hT
  have each : ∀ (P : Pk → Prop), (∀ i, i < ks.length → P (pk ks i)) → P x → ∀ i, i < (ks ++ [x]).length → P (pk (ks ++ [x]) i) := by
    intro P h1 h2 i hi
    simp at hi
    by_cases e : i < ks.length
    · rw [pk_left e]; exact h1 i e
    · obtain rfl : i = ks.length := by omega
      rw [pk_last]; exact h2
  refine ⟨?_, ?_, ?_, hwb.young h.tape hg (fun k hk => by rw [hwz]; exact hrow k hk), h.below.grown hg (by omega) (fun k hk => by have := hrow k hk; omega), by have := hg.size; omega, h.made.snoc hl h.last ht b0 (by omega) hh hp hs hf, ?_, by omega, by simp; omega⟩
  · unfold Kown
    rw [pkls_snoc, List.length_append]
    exact ho
  · refine each (fun k => Pown w' (B + 1) k.v k.ps) (fun i hi => (h.paths i hi).kept hg (fun k hk e => h.ne i hi k e hk)) (hx.kept hg (fun k hk e => hne k e hk))
  · refine each (fun q => ∀ k, q.v.ownBlock = some k → Value.ownBlock (.slice (some ⟨g', 0, none⟩) (ks.length + 1) cap') ≠ some k) (fun i hi k hk e => ?_) (fun k hk e => ?_)
    · have e' : some g' = some k := e
      simp at e'
      rcases hat with hat | hat
      · exact h.ne i hi k hk (by rw [hat, e'])
      · have := ((h.paths i hi).base k hk).2; omega
    · have e' : some g' = some k := e
      simp at e'
      rcases hat with hat | hat
      · exact hne k hk (by rw [hat, e'])
      · have := (hx.base k hk).2; omega
  · exact each (fun k => k.t < A') (fun i hi => by have := h.last i hi; omega) (by omega)
theorem ones_pkl {x : Pk} (hv : ∃ ao n cap, x.v = .slice ao n cap) : ∀ u ∈ pkl x, u.oneCell' = true := by
  obtain ⟨ao, n, cap, hv⟩ := hv
  intro u hu
  simp [pkl] at hu
  rcases hu with rfl | rfl | rfl | rfl | rfl | rfl | rfl | rfl <;> first | rfl | (rw [hv]; rfl)
/-- An append of a key of a path that lies in a block of its own. -/
theorem wpList_append_pk {W : World} {base : Nat} {l : Value} {ks : List Pk} {ops : Array Oper} {rest : List Oper} {o : Oper} {a : Act} {Q : Exit → Act → World → Prop} (hgd : o.guard = none) (s x : Operand)
    (ho : o.op = .call { callee := .builtin .append, args := #[s, x], argTypes := #[34, 34] }) (hf : ks.length ≤ 100) (hs : a.eval s = l) (H : Nat) (hx : a.eval x = .slice (some ⟨H, 0, none⟩) 1 1)
    (p : Pk) (hv : ∃ ao n cap, p.v = .slice ao n cap) (hn : Has W H (pkCells p) 58) (hT : Kown W base l ks) (hb : base ≤ W.heap.size)
    (h : ∀ g' cap' w', w'.ownsRow base 58 8 (.slice (some ⟨g', 0, none⟩) (ks.length + 1) cap') (ks.length + 1) (pkls ks ++ pkl p) → W.grownBy w' l.ownBlock → (l.ownBlock = some g' ∨ g' = W.heap.size) → wpList Try.prog ops Q rest (a.put o.dst (.slice (some ⟨g', 0, none⟩) (ks.length + 1) cap')) w') : wpList Try.prog ops Q (o :: rest) a W := by
  obtain ⟨i0, hi, hz0, hz1, hz2⟩ := info_parts Try.infoPk
  refine wpList_append_lies W hgd s x 34 ho base 58 i0 _ 8 80 Try.underlying34 hi hz0 hz1 hz2 rfl (by decide) l ks.length (pkls ks) hs hT ⟨H, 0, none⟩ 1 1 (pkl p) hx rfl ?_ (ones_pkl hv) (by decide) (by unfold maxLen; omega) (by omega) hb _ rfl ?_
  · intro j u hu
    rw [Addr.add_lit, Nat.zero_add]
    exact hn.cell j u (by simpa [pkl] using hu)
  intro g' cap' w' hown' hg hat _
  exact h g' cap' w' hown' hg hat

def Mades (w : World) (e : Ending) (w' : World) : Prop := ∃ (v : Value) (ks : List Pk), e = .returned v ∧ Mkd ks ∧ Kl w' v ks ∧ Below w.heap.size w w'

set_option maxHeartbeats 4000000 in
theorem l7_made {w : World} {l : Value} (hN : Nums w l) (odd : Int) : Calls Try.prog 10 #[l, .int .i64 odd] w (Mades w) := by
  obtain ⟨B, hB⟩ : ∃ B, w.heap.size = B := ⟨_, rfl⟩
  obtain ⟨W, hW⟩ : ∃ W, w.alloc (.cells #[l, .int .i64 0] 39) = W := ⟨_, rfl⟩
  have hb0 : Below w.heap.size w W := by rw [← hW]; exact (Below.refl _ _).alloc (Nat.le_refl _) _
  have T1 : Tp W B l := tp_start hN (by rw [← hW]; exact has_new hB) hb0 (by omega)
  have sz0 : W.heap.size = B + 1 := by rw [← hW]; simp [hB]
  rw [hB] at hb0
  obtain ⟨a1, n1, c1, rfl⟩ := hN.shape
  have HB := Lib.hid hB
  have HW := Lib.hid hW
  have HB0 := Lib.hid hb0
  have HT1 := Lib.hid T1
  have TB : Hid (∃ wb, Tp wb B (.slice a1 n1 c1) ∧ wb.heap.size = B + 1) := Lib.hid ⟨W, T1, sz0⟩
  obtain ⟨od, hod⟩ : ∃ q, bits .and .i64 odd 7 = q := ⟨_, rfl⟩
  clear hb0 T1 hW hN
  go_enter Try.func10, Try.ntmps10
  go_wp2_with fail
  rw [HW.out]
  clear hB
  refine (t_next B _ 4 _ (by omega) (by omega) HT1.out).mono ?_
  rintro e w1 ⟨x', rfl, x0, x1, ht, hg⟩
  obtain ⟨n, hn⟩ : ∃ n : Nat, (n : Int) = 1 + x' := ⟨(1 + x').toNat, by omega⟩
  have HT2 := Lib.hid ht
  have HB1 := Lib.hid (below_on HB0.out hg (by omega) (by omega))
  have sz1 : B + 1 ≤ w1.heap.size := by have := hg.size; omega
  have hn4 : n ≤ 4 := by omega
  have hn1 : 1 ≤ n := by omega
  have HN := Lib.hid hn
  clear ht hg HT1 HB0 sz0
  go_wp2_with fail
  rw [← HN.out]
  clear hn x0 x1 HN
  refine (t_next B _ 2 _ (by omega) (by omega) HT2.out).mono ?_
  rintro e w2 ⟨z, rfl, z0, z1, ht, hg⟩
  obtain ⟨c, hc⟩ : ∃ c : Bool, (z == 0) = c := ⟨_, rfl⟩
  have HT3 := Lib.hid ht
  have HB2 := Lib.hid (below_on HB1.out hg (by omega) (by omega))
  have sz2 : B + 1 ≤ w2.heap.size := by have := hg.size; omega
  clear ht hg HT2 HB1 z0 z1 sz1
  go_wp2_with fail
  clear hc
  refine (t_next B _ 4 _ (by omega) (by omega) HT3.out).mono ?_
  rintro e w3 ⟨A0, rfl, A1, A2, ht, hg⟩
  have HT4 := Lib.hid ht
  have HB3 := Lib.hid (below_on HB2.out hg (by omega) (by omega))
  have sz3 : B + 1 ≤ w3.heap.size := by have := hg.size; omega
  clear ht hg HT3 HB2 sz2
  go_wp2_with fail
  refine (t_next B _ 5 _ (by omega) (by omega) HT4.out).mono ?_
  rintro e w4 ⟨k0, rfl, k1, k2, ht, hg⟩
  have M0 : Mad w B (.slice a1 n1 c1) A0 [] (.slice none 0 0) w4 := ⟨World.ownsRow_nil _ _ _ _, fun i hi => by simp at hi, fun i hi => by simp at hi, ht, below_on HB3.out hg (by omega) (by omega), by have := hg.size; omega, ⟨by simp, fun i hi => by simp at hi, fun i hi => by simp at hi, fun i hi => by simp at hi, fun i hi => by simp at hi, fun i hi => by simp at hi, fun i hi => by simp at hi⟩, fun i hi => by simp at hi, A1, by simp; omega⟩
  have HM0 := Lib.hid M0
  obtain ⟨m0, rfl⟩ := Int.eq_ofNat_of_zero_le k1
  clear M0 ht hg HT4 HB3 sz3
  go_wp2
  go_loopw [8, 9, 10, 11] (fun lv at' k _ wr => ∃ (m : Nat) (A : Int) (ks : List Pk) (lw : Value), k = .int .i64 m ∧ at' = .int .i64 A ∧ lv = lw ∧ m + ks.length ≤ 4 ∧ Mad w B (.slice a1 n1 c1) A ks lw wr) (fun _ _ k _ _ => (intOf k).toNat)
  case atStart => exact ⟨m0, A0, [], _, rfl, rfl, rfl, by simp; omega, HM0.out⟩
  case round =>
    clear HM0 A1 A2 k1 k2
    obtain ⟨m, A, ks, lw, rfl, rfl, rfl, hml, hM⟩ := hrel
    have ML := Lib.hid hml
    have M := Lib.hid hM
    have A1 := hM.a0
    have A2 : A ≤ 100 := by have := hM.a1; omega
    clear hM hml
    rcases (show m = 0 ∨ ∃ j : Nat, m = j + 1 from by cases m with | zero => exact Or.inl rfl | succ j => exact Or.inr ⟨j, rfl⟩) with rfl | ⟨m, rfl⟩
    rotate_left
    · have LF : Hid (ks.length ≤ 100) := Lib.hid (by have := ML.out; omega)
      have L3 : Hid (ks.length ≤ 3) := Lib.hid (by have := ML.out; omega)
      have m3 : (m : Int) ≤ 3 := by have := ML.out; omega
      go_wp2_with fail
      refine (t_path B _ n c _ (by omega) M.out.tape).mono ?_
      rintro e w5 ⟨vp, ps, rfl, hl, sm, ho, ht, hg⟩
      have M5 := Lib.hid (M.out.call ht hg)
      have NE5 : Hid (∀ k, vp.ownBlock = some k → Value.ownBlock u8 ≠ some k) := Lib.hid (fun k hk e => by have := (ho.base k hk).1; have := (M.out.own.base k e).2; omega)
      have P5 := Lib.hid (ho.lower (B' := B + 1) (by have := M.out.sz; omega))
      have SM := Lib.hid sm
      have HL := Lib.hid hl
      clear ht hg ho sm hl
      obtain ⟨aop, capp, rfl⟩ := P5.out.len
      go_wp2_with fail
      refine (t_next B _ 2 _ (by omega) (by omega) M5.out.tape).mono ?_
      rintro e w6 ⟨hw, rfl, h0, h1, ht, hg⟩
      have M6 := Lib.hid (M5.out.call ht hg)
      have P6 := Lib.hid (P5.out.young hg (by omega))
      have HH : Hid (hw = 0 ∨ hw = 1) := Lib.hid (by omega)
      clear ht hg M5 P5 h0 h1
      obtain ⟨XX, hXX⟩ : ∃ X, w6.alloc (.cells (pkCells ⟨A, c, .slice aop ps.length capp, ps, hw, 0, 0, 0, 0⟩) 58) = X := ⟨_, rfl⟩
      obtain ⟨gx, hgx⟩ : ∃ g, w6.heap.size = g := ⟨_, rfl⟩
      have MX : Hid (Mad w B (.slice a1 n1 c1) A ks u8 XX) := Lib.hid (by rw [← hXX]; exact M6.out.alloc _)
      have KX : Hid (Has XX gx (pkCells ⟨A, c, .slice aop ps.length capp, ps, hw, 0, 0, 0, 0⟩) 58) := Lib.hid (by rw [← hXX]; exact has_new hgx)
      have PX : Hid (Pown XX (B + 1) (.slice aop ps.length capp) ps) := Lib.hid (by rw [← hXX]; exact P6.out.alloc _)
      have HXX := Lib.hid hXX
      have HGX := Lib.hid hgx
      clear hXX P6
      go_upto_region 9 with fail
      rw [HXX.out]
      clear hgx
      by_cases hq : od = (m : Int) + 1
      · subst hq
        have o7 : IntKind.i64.wrap ((n : Int) + 1) = (n : Int) + 1 := IntWalk.i64_in _ (by omega)
        have TPN : Hid (∀ w', Tp w' B (.slice a1 n1 c1) → Calls Try.prog 12 #[.pointer (some ⟨B, 0, none⟩), .int .i64 ((n : Int) + 1), .bool c] w' (Pathss w' B (.slice a1 n1 c1) (n + 1) c)) := Lib.hid (fun w' h => t_path B _ (n + 1) c w' (by omega) h)
        go_wp2_with fail
        refine (TPN.out _ MX.out.tape).mono ?_
        rintro e w8 ⟨vq, qs, rfl, hl2, sm2, ho2, ht2, hg2⟩
        have M8 := MX.out.call ht2 hg2
        have K8 := has_grown KX.out hg2 (by have := M6.out.sz; have := HGX.out; omega)
        have P8 := ho2.lower (B' := B + 1) (by have := MX.out.sz; omega)
        have NEX : Hid (∀ k, vq.ownBlock = some k → Value.ownBlock u8 ≠ some k) := Lib.hid (fun k hk e => by have := (ho2.base k hk).1; have := (MX.out.own.base k e).2; omega)
        have gxl : gx < XX.heap.size := KX.out.lt
        have P9x : ∀ k, vq.ownBlock = some k → k ≠ gx := fun k hk => by have := (ho2.base k hk).1; omega
        have SMX := Lib.hid sm2
        have FMX : Hid (∃ n, 1 ≤ n ∧ n ≤ 6 ∧ qs.length = 3 * n + 1) := Lib.hid ⟨n + 1, by omega, by omega, hl2⟩
        obtain ⟨aoq, capq, rfl⟩ := ho2.len
        obtain ⟨YY, hYY⟩ : ∃ Y, (w8.setCell ⟨gx, 1, none⟩ (.bool c)).setCell ⟨gx, 2, none⟩ (.slice aoq qs.length capq) = Y := ⟨_, rfl⟩
        have MY : Hid (Mad w B (.slice a1 n1 c1) A ks u8 YY) := Lib.hid (by rw [← hYY]; exact Mad.set M6.out (Mad.set M6.out M8 (by rw [HGX.out]; exact Nat.le_refl _) _ _) (by rw [HGX.out]; exact Nat.le_refl _) _ _)
        have KY : Hid (Has YY gx (pkCells ⟨A, c, .slice aoq qs.length capq, qs, hw, 0, 0, 0, 0⟩) 58) := Lib.hid (by
          rw [← hYY]
          have := has_set (has_set K8 1 (.bool c)) 2 (.slice aoq qs.length capq)
          simpa using this)
        have PY : Hid (Pown YY (B + 1) (.slice aoq qs.length capq) qs) := Lib.hid (by
          rw [← hYY]
          exact P8.kept (grownBy_set (grownBy_set (World.grownBy.refl _ _) _ _) _ _) (fun k hk e => by simp at hk; exact P9x k e hk.symm))
        have HYY := Lib.hid hYY
        have y1 := K8.cell 1 _ rfl
        have y2 := K8.cell 2 _ rfl
        have yf := has_fro K8
        clear hYY M8 K8 P8 P9x ho2 ht2 hg2 sm2 hl2 MX KX PX NE5 SM HL HXX M6
        go_upto_region 11 with fail
        rw [HYY.out]
        clear y1 y2 yf
        have K5 := KY.out
        have x0 := K5.cell 0 _ rfl
        have x1 := K5.cell 1 _ rfl
        have x2 := K5.cell 2 _ rfl
        have x3 := K5.cell 3 _ rfl
        have x4 := K5.cell 4 _ rfl
        have x5 := K5.cell 5 _ rfl
        have x6 := K5.cell 6 _ rfl
        have x7 := K5.cell 7 _ rfl
        have SZ5 : Hid (B + 1 ≤ (YY.alloc (.cells (pkCells ⟨A, c, (.slice aoq qs.length capq), qs, hw, 0, 0, 0, 0⟩) 58)).heap.size) := Lib.hid (by have := MY.out.sz; simp; omega)
        clear K5
        go_wp2_with (at_builtin; refine wpList_append_pk rfl _ _ rfl LF.out rfl YY.heap.size rfl ⟨A, c, (.slice aoq qs.length capq), qs, hw, 0, 0, 0, 0⟩ ⟨_, _, _, rfl⟩ has_new0 (MY.out.alloc _).own SZ5.out ?_)
        intro g' cap' w6' ho6 hg6 hat6
        have M6' := Lib.hid (fun (A' : Int) (h1 : A + 1 ≤ A') (h2 : A' ≤ A + 5) => Mad.snoc (A' := A') TB.out (MY.out.alloc _) L3.out rfl HH.out ⟨rfl, rfl, rfl, rfl⟩ SMX.out FMX.out (PY.out.alloc _) NEX.out h1 h2 ho6 hg6 (by simpa using hat6))
        clear ho6 hg6 hat6 x0 x1 x2 x3 x4 x5 x6 x7
        have T6 := Lib.hid (M6'.out (A + 1) (by omega) (by omega)).tape
        go_wp2_with fail
        refine (t_next B _ 5 _ (by omega) (by omega) T6.out).mono ?_
        rintro e w7 ⟨z', rfl, z0, z1, ht, hg⟩
        have M7 := Lib.hid ((M6'.out (A + 1 + z') (by omega) (by omega)).call ht hg)
        clear ht hg T6 M6'
        go_wp2
        go_roundw
        case rel => exact ⟨m, A + 1 + z', _, _, by go_num, rfl, rfl, by simp; have := ML.out; omega, M7.out⟩
        case measure => simp [intOf]
      · have hq' : (od == (m : Int) + 1) = false := by simp [hq]
        have SMX : Hid (Small ps) := SM
        have FMX : Hid (∃ n, 1 ≤ n ∧ n ≤ 6 ∧ ps.length = 3 * n + 1) := Lib.hid ⟨n, hn1, by omega, HL.out⟩
        have NEX := NE5
        clear NE5 HXX M6
        go_upto_region 11 with fail
        have K5 := KX.out
        have x0 := K5.cell 0 _ rfl
        have x1 := K5.cell 1 _ rfl
        have x2 := K5.cell 2 _ rfl
        have x3 := K5.cell 3 _ rfl
        have x4 := K5.cell 4 _ rfl
        have x5 := K5.cell 5 _ rfl
        have x6 := K5.cell 6 _ rfl
        have x7 := K5.cell 7 _ rfl
        have SZ5 : Hid (B + 1 ≤ (XX.alloc (.cells (pkCells ⟨A, c, (.slice aop ps.length capp), ps, hw, 0, 0, 0, 0⟩) 58)).heap.size) := Lib.hid (by have := MX.out.sz; simp; omega)
        clear K5
        go_wp2_with (at_builtin; refine wpList_append_pk rfl _ _ rfl LF.out rfl XX.heap.size rfl ⟨A, c, (.slice aop ps.length capp), ps, hw, 0, 0, 0, 0⟩ ⟨_, _, _, rfl⟩ has_new0 (MX.out.alloc _).own SZ5.out ?_)
        intro g' cap' w6' ho6 hg6 hat6
        have M6' := Lib.hid (fun (A' : Int) (h1 : A + 1 ≤ A') (h2 : A' ≤ A + 5) => Mad.snoc (A' := A') TB.out (MX.out.alloc _) L3.out rfl HH.out ⟨rfl, rfl, rfl, rfl⟩ SMX.out FMX.out (PX.out.alloc _) NEX.out h1 h2 ho6 hg6 (by simpa using hat6))
        clear ho6 hg6 hat6 x0 x1 x2 x3 x4 x5 x6 x7
        have T6 := Lib.hid (M6'.out (A + 1) (by omega) (by omega)).tape
        go_wp2_with fail
        refine (t_next B _ 5 _ (by omega) (by omega) T6.out).mono ?_
        rintro e w7 ⟨z', rfl, z0, z1, ht, hg⟩
        have M7 := Lib.hid ((M6'.out (A + 1 + z') (by omega) (by omega)).call ht hg)
        clear ht hg T6 M6'
        go_wp2
        go_roundw
        case rel => exact ⟨m, A + 1 + z', _, _, by go_num, rfl, rfl, by simp; have := ML.out; omega, M7.out⟩
        case measure => simp [intOf]
    · have R : Mades w (.returned u8) wr := ⟨u8, ks, rfl, M.out.made, M.out.own.kl (by have := ML.out; omega) (fun i hi => (M.out.paths i hi).sl (by have := (M.out.made.pos hi).2; omega)), by rw [HB.out]; exact M.out.below⟩
      have RH := Lib.hid R
      clear R M ML
      go_wp2
      go_ret
      exact RH.out

end Go.Proofs.Ytdpfkhliechkhaa

namespace Go.Proofs.Ytdpfkhliechkhaa
open Go.RowKit
open M

/-- A path that came in; its first twenty places. -/
def Parg (w : World) (v : Value) (ps : List Pt) : Prop := ∃ c : Bool, (∃ sl, v = .agg #[.bool c, sl] ∧ Psl w sl ps ∧ ps.length ≤ 20) ∨
  ∃ g o len cap, v = .agg #[.bool c, .slice (some ⟨g, o, none⟩) len cap] ∧ 20 < len ∧ len ≤ 9223372036854775807 ∧ len ≤ cap ∧ Psl w (.slice (some ⟨g, o, none⟩) 20 cap) ps ∧ ps.length = 20
theorem Nums.below {w w' : World} {v : Value} (h : Nums w v) (hb : Below w.heap.size w w') : Nums w' v := by
  rcases h with h | ⟨b, o, n, cap, hv, h0, h1, hc⟩
  · exact Or.inl h
  · refine Or.inr ⟨b, o, n, cap, hv, h0, h1, fun i hi => ?_⟩
    obtain ⟨x, hx⟩ := hc i hi
    exact ⟨x, (hb.cell (p := ⟨b, _, _⟩) (World.block_lt_of_cell? w _ hx)).trans hx⟩

set_option maxRecDepth 100000 in
set_option maxHeartbeats 8000000 in
theorem pathTells_walk {w : World} (l1 : Value) (_ : Unit) (l2 : Value) (_ : Unit) (t ma mb mc md me mf : Int) (raw : Value) (rp : List Pt) (odd : Int) (hN1 : Nums w l1) (hN2 : Nums w l2) (hR : Parg w raw rp) :
    Calls Try.prog 4 #[l1, l2, .int .i64 t, .agg (mCells ma mb mc md me mf), raw, .int .i64 odd] w fun r w' => r = .returned (.bool true) ∧ Below w.heap.size w w' := by
  obtain ⟨B, hB⟩ : ∃ B, w.heap.size = B := ⟨_, rfl⟩
  have s1 := hN1.src
  have s2 := hN2.src
  rw [hB] at s1 s2
  obtain ⟨rc, rsl, hraw⟩ : ∃ c sl, raw = .agg #[.bool c, sl] := by
    obtain ⟨c, h | ⟨g, o, len, cap, h, _⟩⟩ := hR
    · obtain ⟨sl, h, _⟩ := h; exact ⟨c, sl, h⟩
    · exact ⟨c, _, h⟩
  have hsl : ∃ ao n cap, rsl = .slice ao n cap := by
    obtain ⟨c, h | ⟨g, o, len, cap, h, _⟩⟩ := hR
    · obtain ⟨sl, h, hp, _⟩ := h
      rw [hraw] at h
      simp at h
      obtain ⟨_, rfl⟩ := h
      exact hp.shape
    · rw [hraw] at h
      simp at h
      exact ⟨_, _, _, h.2⟩
  obtain ⟨ra, rn, rcap, rfl⟩ := hsl
  subst hraw
  obtain ⟨W, hW⟩ : ∃ W, (((w.alloc (.cells (mCells ma mb mc md me mf) 30)).alloc (.cells #[.bool rc, .slice ra rn rcap] 24)).alloc (.cells #[l1, .int .i64 0] 39)).alloc (.cells #[l2, .int .i64 0] 39) = W := ⟨_, rfl⟩
  have hb0 : Below w.heap.size w W := by rw [← hW]; exact ((((Below.refl _ _).alloc (Nat.le_refl _) _).alloc (by simp) _).alloc (by simp; omega) _).alloc (by simp; omega) _
  have HM : Has W B (mCells ma mb mc md me mf) 30 := by rw [← hW]; exact (((has_new hB).alloc _).alloc _).alloc _
  have HRW : Has W (B + 1) #[.bool rc, .slice ra rn rcap] 24 := by rw [← hW]; exact ((has_new (by simp [hB])).alloc _).alloc _
  have T1 : Tp W (B + 1 + 1) l1 := tp_start hN1 (by rw [← hW]; exact (has_new (by simp [hB])).alloc _) hb0 (by omega)
  have T2 : Tp W (B + 1 + 1 + 1) l2 := tp_start hN2 (by rw [← hW]; exact has_new (by simp [hB])) hb0 (by omega)
  have sz0 : W.heap.size = B + 1 + 1 + 1 + 1 := by rw [← hW]; simp [hB]
  have R1 : Hid (Nums w l1 ∧ Nums w l2) := Lib.hid ⟨hN1, hN2⟩
  have RW := Lib.hid hR
  rw [hB] at hb0
  obtain ⟨a1, n1, c1, rfl⟩ := hN1.shape
  obtain ⟨a2, n2, c2, rfl⟩ := hN2.shape
  have HB := Lib.hid hB
  have HW := Lib.hid hW
  have HB0 := Lib.hid hb0
  have HT1 := Lib.hid T1
  have HT2 := Lib.hid T2
  have S1 := Lib.hid s1
  have S2 := Lib.hid s2
  have XM := Lib.hid HM
  have XR := Lib.hid HRW
  clear hb0 T1 T2 hW hN1 hN2 s1 s2 HM HRW hR
  go_enter Try.func4, Try.ntmps4
  go_wp2_with fail
  rw [HW.out]
  clear hB
  refine (t_next (B + 1 + 1) _ 5 _ (by omega) (by omega) HT1.out).mono ?_
  rintro e w1 ⟨x, rfl, x0, x1, ht, hg⟩
  obtain ⟨n, hn⟩ : ∃ n : Nat, (n : Int) = 1 + x := ⟨(1 + x).toNat, by omega⟩
  have HT1a := Lib.hid ht
  have HT2a := Lib.hid (HT2.out.other S2.out hg (by omega) (by omega))
  have HB1 := Lib.hid (below_on HB0.out hg (by omega) (by omega))
  have XM1 := Lib.hid (has_grown XM.out hg (by omega))
  have XR1 := Lib.hid (has_grown XR.out hg (by omega))
  have sz1 : B + 1 + 1 + 1 + 1 ≤ w1.heap.size := by have := hg.size; omega
  have hn5 : n ≤ 5 := by omega
  have HN := Lib.hid hn
  clear ht hg HT1 HT2 HB0 sz0 XM XR
  go_wp2_with fail
  rw [← HN.out]
  clear hn x0 x1 HN
  refine (t_path (B + 1 + 1) _ n true _ (by omega) HT1a.out).mono ?_
  rintro e w2 ⟨va, ps, rfl, hl1, sm1, ho1, ht, hg⟩
  have HT2b := Lib.hid (HT2a.out.other S2.out hg (by omega) (by omega))
  have HB2 := Lib.hid (below_on HB1.out hg (by omega) (by omega))
  have XM2 := Lib.hid (has_grown XM1.out hg (by omega))
  have XR2 := Lib.hid (has_grown XR1.out hg (by omega))
  have sz2 : B + 1 + 1 + 1 + 1 ≤ w2.heap.size := by have := hg.size; omega
  have O1 := Lib.hid (ho1.lower (B' := B + 1 + 1 + 1 + 1) (by omega))
  have LP : Hid (ps.length ≤ 1000) := Lib.hid (by omega)
  clear ht hg ho1 sm1 hl1 HT1a HT2a HB1 XM1 XR1
  obtain ⟨aa, ca, rfl⟩ := O1.out.len
  go_wp2_with fail
  refine (t_next (B + 1 + 1 + 1) _ 5 _ (by omega) (by omega) HT2b.out).mono ?_
  rintro e w3 ⟨x2, rfl, x0, x1, ht, hg⟩
  obtain ⟨n2', hn⟩ : ∃ n : Nat, (n : Int) = 1 + x2 := ⟨(1 + x2).toNat, by omega⟩
  have HT3 := Lib.hid ht
  have HB3 := Lib.hid (below_on HB2.out hg (by omega) (by omega))
  have XM3 := Lib.hid (has_grown XM2.out hg (by omega))
  have XR3 := Lib.hid (has_grown XR2.out hg (by omega))
  have sz3 : B + 1 + 1 + 1 + 1 ≤ w3.heap.size := by have := hg.size; omega
  have O3 := Lib.hid (O1.out.young hg (by omega))
  have hn6 : n2' ≤ 5 := by omega
  have HN := Lib.hid hn
  clear ht hg HT2b HB2 XM2 XR2 O1
  go_wp2_with fail
  rw [← HN.out]
  clear hn x0 x1 HN
  refine (t_next (B + 1 + 1 + 1) _ 4 _ (by omega) (by omega) HT3.out).mono ?_
  rintro e w4 ⟨z, rfl, z0, z1, ht, hg⟩
  obtain ⟨c, hc⟩ : ∃ c : Bool, decide (0 < z) = c := ⟨_, rfl⟩
  have HT4 := Lib.hid ht
  have HB4 := Lib.hid (below_on HB3.out hg (by omega) (by omega))
  have XM4 := Lib.hid (has_grown XM3.out hg (by omega))
  have XR4 := Lib.hid (has_grown XR3.out hg (by omega))
  have sz4 : B + 1 + 1 + 1 + 1 ≤ w4.heap.size := by have := hg.size; omega
  have O4 := Lib.hid (O3.out.young hg (by omega))
  clear ht hg HT3 HB3 XM3 XR3 O3 z0 z1
  go_wp2_with fail
  clear hc
  refine (t_path (B + 1 + 1 + 1) _ n2' c _ (by omega) HT4.out).mono ?_
  rintro e w5 ⟨vb, qs, rfl, hl2, sm2, ho2, ht, hg⟩
  have HB5 := Lib.hid (below_on HB4.out hg (by omega) (by omega))
  have XM5 := Lib.hid (has_grown XM4.out hg (by omega))
  have XR5 := Lib.hid (has_grown XR4.out hg (by omega))
  have sz5 : B + 1 + 1 + 1 + 1 ≤ w5.heap.size := by have := hg.size; omega
  have NEA := Lib.hid ((O4.out.young hg (by omega)).off (g := B + 1) (by omega))
  have NEB := Lib.hid ((ho2.lower (B' := B + 1 + 1 + 1 + 1) (by omega)).off (g := B + 1) (by omega))
  have O5 := Lib.hid ((O4.out.young hg (by omega)).sl LP.out)
  have Q5 := Lib.hid (ho2.sl (by omega))
  obtain ⟨ab, cb, rfl⟩ := ho2.len
  clear ht hg ho2 sm2 hl2 HT4 HB4 XM4 XR4 O4
  obtain ⟨V, hV⟩ : ∃ V, (w5.alloc (.cells #[.bool true, .slice aa ps.length ca] 24)).alloc (.cells #[.bool c, .slice ab qs.length cb] 24) = V := ⟨_, rfl⟩
  obtain ⟨s, hs⟩ : ∃ s, w5.heap.size = s := ⟨_, rfl⟩
  have KA : Has V s #[.bool true, .slice aa ps.length ca] 24 := by rw [← hV]; exact (has_new hs).alloc _
  have KB : Has V (s + 1) #[.bool c, .slice ab qs.length cb] 24 := by rw [← hV]; exact has_new (by simp [hs])
  have KM : Has V B (mCells ma mb mc md me mf) 30 := by rw [← hV]; exact (XM5.out.alloc _).alloc _
  have KR : Has V (B + 1) #[.bool rc, .slice ra rn rcap] 24 := by rw [← hV]; exact (XR5.out.alloc _).alloc _
  have PA : Psl V (.slice aa ps.length ca) ps := by rw [← hV]; exact (O5.out.alloc _).alloc _
  have PB : Psl V (.slice ab qs.length cb) qs := by rw [← hV]; exact (Q5.out.alloc _).alloc _
  have BV : Below B w V := by rw [← hV]; exact (HB5.out.alloc (by omega) _).alloc (by simp; omega) _
  have szs : B + 1 + 1 + 1 + 1 ≤ s := by omega
  have HV := Lib.hid hV
  have XA := Lib.hid KA
  have XB := Lib.hid KB
  have XM := Lib.hid KM
  have XR := Lib.hid KR
  have YA := Lib.hid PA
  have YB := Lib.hid PB
  have YV := Lib.hid BV
  have r0 := KR.cell 0 _ rfl
  have r1 := KR.cell 1 _ rfl
  have rf := has_fro KR
  clear KA KB KM KR PA PB BV hV O5 Q5 XM5 XR5 HB5 LP
  go_upto_region 3 with fail
  rw [HV.out]
  clear hs HV HW S1 S2
  obtain ⟨q, hq⟩ : ∃ q, bits .and .i64 t 65535 = q := ⟨_, rfl⟩
  obtain ⟨t3, ht3⟩ : ∃ q, bits .and .i64 t 31 = q := ⟨_, rfl⟩
  obtain ⟨t1, ht1⟩ : ∃ q, bits .and .i64 t 15 = q := ⟨_, rfl⟩
  obtain ⟨c', hA | ⟨g, o, len, cap, hv, l20, l63, lcap, hp, hlen⟩⟩ := RW.out
  · obtain ⟨sl, hv, hp, hlen⟩ := hA
    simp at hv
    obtain ⟨rfl, rfl⟩ := hv
    have hrn : rn ≤ 20 := by
      obtain ⟨ao', cap', hv, _, _⟩ := hp
      simp at hv
      omega
    obtain ⟨U, hU⟩ : ∃ U, V = U := ⟨_, rfl⟩
    subst hU
    have UA := XA
    have UB := XB
    have UM := XM
    have UR := XR
    have PA' := YA
    have PB' := YB
    have PR' : Hid (Psl V (.slice ra rn rcap) rp) := Lib.hid (hp.below YV.out (by have := HB.out; omega))
    have BU := YV
    have NU : Hid (∀ w', Ht V w' → Nums w' (.slice a1 n1 c1) ∧ Nums w' (.slice a2 n2 c2)) := Lib.hid (fun w' h => by
      have hb : Below w.heap.size w w' := by rw [HB.out]; exact YV.out.trans (h.below.mono (by have := XA.out.lt; omega))
      exact ⟨R1.out.1.below hb, R1.out.2.below hb⟩)
    have H0 : Hid (Ht V V) := Lib.hid (Ht.refl V)
    have o20 : (rn : Int) ≤ 20 := by omega
    clear hp hlen XA XB XM XR YA YB YV RW NEA NEB
    go_upto_region 5 with fail
    clear r0 r1 rf
    go_region_held3 (fun w' => Ht V w' ∧ w'.cell? ⟨s, 0, none⟩ = some (.bool true) ∧ w'.cell? ⟨s, 1, none⟩ = some (.slice aa ps.length ca) ∧ w'.cell? ⟨s + 1, 0, none⟩ = some (.bool c) ∧ w'.cell? ⟨s + 1, 1, none⟩ = some (.slice ab qs.length cb) ∧ w'.cell? ⟨B, 0, none⟩ = some (.int .i64 ma) ∧ w'.cell? ⟨B, 1, none⟩ = some (.int .i64 mb) ∧ w'.cell? ⟨B, 2, none⟩ = some (.int .i64 mc) ∧ w'.cell? ⟨B, 3, none⟩ = some (.int .i64 md) ∧ w'.cell? ⟨B, 4, none⟩ = some (.int .i64 me) ∧ w'.cell? ⟨B, 5, none⟩ = some (.int .i64 mf) ∧ w'.cell? ⟨B + 1, 0, none⟩ = some (.bool rc) ∧ w'.cell? ⟨B + 1, 1, none⟩ = some (.slice ra rn rcap))
      ((go_split_ands; first | exact Ht.dozen H0.out.drew UA.out UB.out UM.out UR.out | exact Ht.dozen (by assumption) UA.out UB.out UM.out UR.out))
      (first
        | (go_at_call 11; refine (known7 _).mono ?_; rintro e wa ⟨rfl, hqa⟩; have ha := Ht.call h9 hqa)
        | (have mm := h8; clear mm; go_at_call 9; refine (l7_keys kl8 mk8 _).mono ?_; rintro e w9 ⟨rfl, hq9⟩; have h9 := Ht.call h8 hq9)
        | (have mm := h7; clear mm; go_at_call 10; refine (l7_made (NU.out _ h7).2 _).mono ?_; rintro e w8 ⟨v8, k8, rfl, mk8, kl8, hq8⟩; have h8 := Ht.call h7 hq8)
        | (have mm := h6; clear mm; go_at_call 9; refine (l7_keys kl6 mk6 _).mono ?_; rintro e w7 ⟨rfl, hq7⟩; have h7 := Ht.call h6 hq7)
        | (go_at_call 10; refine (l7_made (NU.out _ h5).1 _).mono ?_; rintro e w6 ⟨v6, k6, rfl, mk6, kl6, hq6⟩; have h6 := Ht.call h5 hq6)
        | (have mm := h4; clear mm; go_at_call 7; refine (l7_same true true t ma mb mc md me mf (PA'.out.ht h4) (PA'.out.ht h4)).mono ?_; rintro e w5' ⟨rfl, hq5⟩; have h5 := Ht.call h4 hq5)
        | (have mm := h3; clear mm; go_at_call 7; refine (l7_same rc true t ma mb mc md me mf (PR'.out.ht h3) (PA'.out.ht h3)).mono ?_; rintro e w4' ⟨rfl, hq4⟩; have h4 := Ht.call h3 hq4)
        | (have mm := h2; clear mm; go_at_call 7; refine (l7_same true c q 65536 0 0 65536 0 0 (PA'.out.ht h2) (PB'.out.ht h2)).mono ?_; rintro e w3' ⟨rfl, hq3⟩; have h3 := Ht.call h2 hq3)
        | (go_at_call 8; refine (r3_same _).mono ?_; rintro e w2' ⟨rfl, hq2⟩; have h2 := Ht.call h1 hq2)
        | (go_at_call 7; refine (l7_same true c t ma mb mc md me mf (PA'.out.ht H0.out.drew) (PB'.out.ht H0.out.drew)).mono ?_; rintro e w1' ⟨rfl, hq1⟩; have h1 := Ht.call H0.out.drew hq1))
    all_goals
      go_wp2
      go_ret
      exact ⟨rfl, by rw [HB.out]; exact BU.out.trans ((show Ht V _ by assumption).below.mono (by have := UA.out.lt; omega))⟩
  · simp at hv
    obtain ⟨rfl, rfl, rfl, rfl⟩ := hv
    have o20 : (20 : Int) < rn := by omega
    have o21 : (20 : Int) ≤ rcap := by omega
    have o22 : (rn : Int) ≤ rcap := by omega
    obtain ⟨U, hU⟩ : ∃ U, V.setCell ⟨B + 1, 1, none⟩ (.slice (some ⟨g, o, none⟩) 20 rcap) = U := ⟨_, rfl⟩
    have hgr : V.grownBy U (some (B + 1)) := by rw [← hU]; exact grownBy_set (World.grownBy.refl _ _) _ _
    have UA : Hid (Has U s #[.bool true, .slice aa ps.length ca] 24) := Lib.hid (has_grown XA.out hgr (by omega))
    have UB : Hid (Has U (s + 1) #[.bool c, .slice ab qs.length cb] 24) := Lib.hid (has_grown XB.out hgr (by omega))
    have UM : Hid (Has U B (mCells ma mb mc md me mf) 30) := Lib.hid (has_grown XM.out hgr (by omega))
    have UR : Hid (Has U (B + 1) #[.bool rc, .slice (some ⟨g, o, none⟩) 20 rcap] 24) := Lib.hid (by
      rw [← hU]
      have := has_set XR.out 1 (.slice (some ⟨g, o, none⟩) 20 rcap)
      simpa using this)
    have PA' : Hid (Psl U (.slice aa ps.length ca) ps) := Lib.hid (YA.out.grown hgr (fun k hk e => by simp at hk; subst hk; exact NEA.out e))
    have PB' : Hid (Psl U (.slice ab qs.length cb) qs) := Lib.hid (YB.out.grown hgr (fun k hk e => by simp at hk; subst hk; exact NEB.out e))
    have gw : g < B := by
      obtain ⟨g', o', e', r', l'⟩ := hp.row (by omega)
      simp at e'
      have := r'.lt (by omega)
      have := HB.out
      omega
    have PR' : Hid (Psl U (.slice (some ⟨g, o, none⟩) 20 rcap) rp) := Lib.hid ((hp.below YV.out (by have := HB.out; omega)).grown hgr (fun k hk e => by have e' : some g = some k := e; simp at hk e'; omega))
    have BU : Hid (Below B w U) := Lib.hid (below_on YV.out hgr (by omega) (by have := XA.out.lt; omega))
    have NU : Hid (∀ w', Ht U w' → Nums w' (.slice a1 n1 c1) ∧ Nums w' (.slice a2 n2 c2)) := Lib.hid (fun w' h => by
      have hb : Below w.heap.size w w' := by rw [HB.out]; exact BU.out.trans (h.below.mono (by have := UA.out.lt; omega))
      exact ⟨R1.out.1.below hb, R1.out.2.below hb⟩)
    have H0 : Hid (Ht U U) := Lib.hid (Ht.refl U)
    have HU := Lib.hid hU
    clear hp hlen XA XB XM XR YA YB YV RW NEA NEB hU hgr
    go_upto_region 5 with fail
    rw [HU.out]
    clear r0 r1 rf
    go_region_held3 (fun w' => Ht U w' ∧ w'.cell? ⟨s, 0, none⟩ = some (.bool true) ∧ w'.cell? ⟨s, 1, none⟩ = some (.slice aa ps.length ca) ∧ w'.cell? ⟨s + 1, 0, none⟩ = some (.bool c) ∧ w'.cell? ⟨s + 1, 1, none⟩ = some (.slice ab qs.length cb) ∧ w'.cell? ⟨B, 0, none⟩ = some (.int .i64 ma) ∧ w'.cell? ⟨B, 1, none⟩ = some (.int .i64 mb) ∧ w'.cell? ⟨B, 2, none⟩ = some (.int .i64 mc) ∧ w'.cell? ⟨B, 3, none⟩ = some (.int .i64 md) ∧ w'.cell? ⟨B, 4, none⟩ = some (.int .i64 me) ∧ w'.cell? ⟨B, 5, none⟩ = some (.int .i64 mf) ∧ w'.cell? ⟨B + 1, 0, none⟩ = some (.bool rc) ∧ w'.cell? ⟨B + 1, 1, none⟩ = some (.slice (some ⟨g, o, none⟩) 20 rcap))
      ((go_split_ands; first | exact Ht.dozen H0.out.drew UA.out UB.out UM.out UR.out | exact Ht.dozen (by assumption) UA.out UB.out UM.out UR.out))
      (first
        | (go_at_call 11; refine (known7 _).mono ?_; rintro e wa ⟨rfl, hqa⟩; have ha := Ht.call h9 hqa)
        | (have mm := h8; clear mm; go_at_call 9; refine (l7_keys kl8 mk8 _).mono ?_; rintro e w9 ⟨rfl, hq9⟩; have h9 := Ht.call h8 hq9)
        | (have mm := h7; clear mm; go_at_call 10; refine (l7_made (NU.out _ h7).2 _).mono ?_; rintro e w8 ⟨v8, k8, rfl, mk8, kl8, hq8⟩; have h8 := Ht.call h7 hq8)
        | (have mm := h6; clear mm; go_at_call 9; refine (l7_keys kl6 mk6 _).mono ?_; rintro e w7 ⟨rfl, hq7⟩; have h7 := Ht.call h6 hq7)
        | (go_at_call 10; refine (l7_made (NU.out _ h5).1 _).mono ?_; rintro e w6 ⟨v6, k6, rfl, mk6, kl6, hq6⟩; have h6 := Ht.call h5 hq6)
        | (have mm := h4; clear mm; go_at_call 7; refine (l7_same true true t ma mb mc md me mf (PA'.out.ht h4) (PA'.out.ht h4)).mono ?_; rintro e w5' ⟨rfl, hq5⟩; have h5 := Ht.call h4 hq5)
        | (have mm := h3; clear mm; go_at_call 7; refine (l7_same rc true t ma mb mc md me mf (PR'.out.ht h3) (PA'.out.ht h3)).mono ?_; rintro e w4' ⟨rfl, hq4⟩; have h4 := Ht.call h3 hq4)
        | (have mm := h2; clear mm; go_at_call 7; refine (l7_same true c q 65536 0 0 65536 0 0 (PA'.out.ht h2) (PB'.out.ht h2)).mono ?_; rintro e w3' ⟨rfl, hq3⟩; have h3 := Ht.call h2 hq3)
        | (go_at_call 8; refine (r3_same _).mono ?_; rintro e w2' ⟨rfl, hq2⟩; have h2 := Ht.call h1 hq2)
        | (go_at_call 7; refine (l7_same true c t ma mb mc md me mf (PA'.out.ht H0.out.drew) (PB'.out.ht H0.out.drew)).mono ?_; rintro e w1' ⟨rfl, hq1⟩; have h1 := Ht.call H0.out.drew hq1))
    all_goals
      go_wp2
      go_ret
      exact ⟨rfl, by rw [HB.out]; exact BU.out.trans ((show Ht U _ by assumption).below.mono (by have := UA.out.lt; omega))⟩

end Go.Proofs.Ytdpfkhliechkhaa

namespace Go.Proofs.Ytdpfkhliechkhaa
open Go Go.RowKit Go.Joins Go.ChangeShapes Go.WideShapes Go.Deep

section
variable {H : Type} {enc : TypeId × Value → H} {P : Program} {w : World} {base : Nat} {spare : Nat → Bool} {held : Bool}

def fieldsOf (e : TypeId) (fs : Array Field) : Bool := fs.toList.all fun f => f.type == e
theorem fieldsOf_spec {e : TypeId} {fs : Array Field} (h : fieldsOf e fs = true) (j : Nat) (f : Field) (hj : fs[j]? = some f) : f.type = e := by
  have := List.all_eq_true.1 h f (by rw [Array.mem_toList_iff]; exact Array.mem_of_getElem? hj)
  simpa using this

theorem open_ints {r : Reach} {b0 : Nat} {t e : TypeId} {fs : Array Field} {v : Value} {d : DataW H} {p : List MemPlace} (hs : P.underlying t = some (.struct fs)) (he : P.underlying e = some (.int .i64))
    (hone : oneCellFields P fs = true) (hty : fieldsOf e fs = true) (hC : P.cellsOf t = fs.size) (hv : Value.okWide P w r b0 t v) (h : DataW.Trod enc P w base spare held t v d p) :
    ∃ ns : List Int, ns.length = fs.size ∧ v = .agg (ns.map (Value.int .i64)).toArray ∧ d = .agg (ns.map fun n => .lit (.int .i64 n)) ∧ p = [] ∧ ∀ n ∈ ns, (Lit.int .i64 n).wf = true := by
  obtain ⟨⟨L⟩, rfl, hsz⟩ := okWide_struct hs hv
  obtain ⟨fuel, hf⟩ := h
  obtain ⟨xs, n, _, hx, _, hlen, hg⟩ := DataW.trod_struct hs hf
  have hL : L.length = fs.size := by rw [← hC]; simpa using hsz
  have key : ∀ j, j < fs.size → ∃ a, L[j]? = some (.int .i64 a) ∧ xs[j]? = some (.lit (.int .i64 a), []) ∧ (Lit.int .i64 a).wf = true := by
    intro j hj
    obtain ⟨f, hfj⟩ : ∃ f, fs[j]? = some f := ⟨_, Array.getElem?_eq_getElem hj⟩
    obtain ⟨ho, hk⟩ := hone_of hone j f hfj
    have h1 := hg j f hfj
    rw [ho, hk, fieldsOf_spec hty j f hfj] at h1
    have hjL : j < L.length := by omega
    have hc : (((Value.agg L.toArray).cells.toList).drop j).take 1 = [L[j]] := by
      show (L.drop j).take 1 = [L[j]]
      rw [List.drop_eq_getElem_cons hjL]; rfl
    rw [hc] at h1
    have hxj : xs[j]? = some (xs[j]'(by omega)) := List.getElem?_eq_getElem (by omega)
    rw [hxj] at h1
    obtain ⟨a, ha, hxa, hw⟩ := DataW.trod_int he h1
    have hLa : L[j] = .int .i64 a := by simpa using ha
    exact ⟨a, by rw [List.getElem?_eq_getElem hjL, hLa], by rw [hxj, hxa], hw⟩
  have e1 : (L.map intOf).map (Value.int .i64) = L := by
    apply List.ext_getElem?
    intro j
    by_cases hj : j < fs.size
    · obtain ⟨a, ha, _, _⟩ := key j hj
      simp [List.getElem?_map, ha, intOf]
    · rw [List.getElem?_eq_none (by simp; omega), List.getElem?_eq_none (by omega)]
  have e2 : xs.map (·.1) = (L.map intOf).map fun n => DataW.lit (.int .i64 n) := by
    apply List.ext_getElem?
    intro j
    by_cases hj : j < fs.size
    · obtain ⟨a, ha, hxa, _⟩ := key j hj
      simp [List.getElem?_map, ha, hxa, intOf]
    · rw [List.getElem?_eq_none (by simp; omega), List.getElem?_eq_none (by simp; omega)]
  have e3 : xs.flatMap (·.2) = [] := by
    rw [List.flatMap_eq_nil_iff]
    intro y hy
    obtain ⟨j, hj⟩ := List.mem_iff_getElem?.1 hy
    have hjl : j < fs.size := by have := (List.getElem?_eq_some_iff.1 hj).1; omega
    obtain ⟨a, _, hxa, _⟩ := key j hjl
    rw [hj] at hxa
    rw [Option.some.inj hxa]
  simp only [Prod.mk.injEq] at hx
  refine ⟨L.map intOf, by simpa using hL, by rw [e1], by rw [hx.1, e2], by rw [hx.2, e3], fun m hm => ?_⟩
  obtain ⟨c, hc, rfl⟩ := List.mem_map.1 hm
  obtain ⟨j, hj⟩ := List.mem_iff_getElem?.1 hc
  have hjl : j < fs.size := by have := (List.getElem?_eq_some_iff.1 hj).1; omega
  obtain ⟨a, ha, _, hw⟩ := key j hjl
  rw [hj] at ha
  rw [Option.some.inj ha]
  exact hw

theorem mapM_all {α β : Type} {g : α → Option β} : ∀ (l : List α) (xs : List β), l.length = xs.length → (∀ (i : Nat) a x, l[i]? = some a → xs[i]? = some x → g a = some x) → l.mapM g = some xs
  | [], [], _, _ => by simp
  | [], _ :: _, h, _ => by simp at h
  | _ :: _, [], h, _ => by simp at h
  | a :: l, x :: xs, h, hh => by
    have h0 : g a = some x := hh 0 a x rfl rfl
    have ih := mapM_all l xs (by simpa using h) (fun i b y h1 h2 => hh (i + 1) b y (by simpa using h1) (by simpa using h2))
    simp [List.mapM_cons, h0, ih]

theorem shut_ints {t e : TypeId} {fs : Array Field} {ns : List Int} (hs : P.underlying t = some (.struct fs)) (he : P.underlying e = some (.int .i64))
    (hone : oneCellFields P fs = true) (hty : fieldsOf e fs = true) (hC : P.cellsOf t = fs.size) (hl : ns.length = fs.size) (hw : ∀ n ∈ ns, (Lit.int .i64 n).wf = true) :
    DataW.Trod enc P w base spare held t (.agg (ns.map (Value.int .i64)).toArray) (.agg (ns.map fun n => .lit (.int .i64 n))) [] := by
  have h := trod_struct_mk (enc := enc) (w := w) (base := base) (spare := spare) (held := held) (n := 1) (cs := ns.map (Value.int .i64)) (xs := ns.map fun n => (DataW.lit (.int .i64 n), [])) hs (by simp [hl, hC]) (by
    refine mapM_all _ _ (by simp [hl]) ?_
    intro i f x hf hx
    have hf' : fs[i]? = some f := by simpa using hf
    obtain ⟨ho, hk⟩ := hone_of hone i f hf'
    have hil : i < ns.length := by have := (Array.getElem?_eq_some_iff.1 hf').1; omega
    rw [List.getElem?_map, List.getElem?_eq_getElem hil] at hx
    obtain rfl := Option.some.inj hx
    rw [ho, hk, fieldsOf_spec hty i f hf']
    have hc : ((ns.map (Value.int .i64)).drop i).take 1 = [.int .i64 ns[i]] := by
      rw [List.drop_eq_getElem_cons (by simpa using hil)]
      simp
    rw [hc]
    have hwn := hw ns[i] (List.getElem_mem hil)
    simp [DataW.trod, he, hwn])
  refine ⟨2, ?_⟩
  have e1 : (ns.map fun n => (DataW.lit (H := H) (.int .i64 n), ([] : List MemPlace))).map (·.1) = ns.map fun n => .lit (.int .i64 n) := by simp
  have e2 : (ns.map fun n => (DataW.lit (H := H) (.int .i64 n), ([] : List MemPlace))).flatMap (·.2) = [] := by
    rw [List.flatMap_eq_nil_iff]; intro y hy; obtain ⟨m, _, rfl⟩ := List.mem_map.1 hy; rfl
  rw [e1, e2] at h
  exact h

theorem list2 {l : List Int} (h : l.length = 2) : ∃ n0 n1, l = [n0, n1] := by
  match l, h with
  | [n0, n1], _ => exact ⟨n0, n1, rfl⟩
theorem open_ints2 {r : Reach} {b0 : Nat} {t e : TypeId} {fs : Array Field} {v : Value} {d : DataW H} {p : List MemPlace} (hs : P.underlying t = some (.struct fs)) (he : P.underlying e = some (.int .i64))
    (hone : oneCellFields P fs = true) (hty : fieldsOf e fs = true) (hC : P.cellsOf t = fs.size) (h2 : fs.size = 2) (hv : Value.okWide P w r b0 t v) (h : DataW.Trod enc P w base spare held t v d p) :
    ∃ n0 n1 : Int, v = .agg #[.int .i64 n0, .int .i64 n1] ∧ d = .agg [.lit (.int .i64 n0), .lit (.int .i64 n1)] ∧ p = [] ∧ (Lit.int .i64 n0).wf = true ∧ (Lit.int .i64 n1).wf = true := by
  obtain ⟨ns, hl, hv', hd, hp, hw⟩ := open_ints hs he hone hty hC hv h
  obtain ⟨n0, n1, rfl⟩ := list2 (hl.trans h2)
  exact ⟨n0, n1, hv', hd, hp, hw n0 (by simp), hw n1 (by simp)⟩
theorem shut_ints2 {t e : TypeId} {fs : Array Field} {n0 n1 : Int} (hs : P.underlying t = some (.struct fs)) (he : P.underlying e = some (.int .i64))
    (hone : oneCellFields P fs = true) (hty : fieldsOf e fs = true) (hC : P.cellsOf t = fs.size) (h2 : fs.size = 2) (w0 : (Lit.int .i64 n0).wf = true) (w1 : (Lit.int .i64 n1).wf = true) :
    DataW.Trod enc P w base spare held t (.agg #[.int .i64 n0, .int .i64 n1]) (.agg [.lit (.int .i64 n0), .lit (.int .i64 n1)]) [] :=
  shut_ints (ns := [n0, n1]) hs he hone hty hC h2.symm (by intro m hm; simp at hm; rcases hm with rfl | rfl <;> assumption)
theorem list4 {l : List Int} (h : l.length = 4) : ∃ n0 n1 n2 n3, l = [n0, n1, n2, n3] := by
  match l, h with
  | [n0, n1, n2, n3], _ => exact ⟨n0, n1, n2, n3, rfl⟩
theorem open_ints4 {r : Reach} {b0 : Nat} {t e : TypeId} {fs : Array Field} {v : Value} {d : DataW H} {p : List MemPlace} (hs : P.underlying t = some (.struct fs)) (he : P.underlying e = some (.int .i64))
    (hone : oneCellFields P fs = true) (hty : fieldsOf e fs = true) (hC : P.cellsOf t = fs.size) (h4 : fs.size = 4) (hv : Value.okWide P w r b0 t v) (h : DataW.Trod enc P w base spare held t v d p) :
    ∃ n0 n1 n2 n3 : Int, v = .agg #[.int .i64 n0, .int .i64 n1, .int .i64 n2, .int .i64 n3] ∧ d = .agg [.lit (.int .i64 n0), .lit (.int .i64 n1), .lit (.int .i64 n2), .lit (.int .i64 n3)] ∧ p = [] ∧ (Lit.int .i64 n0).wf = true ∧ (Lit.int .i64 n1).wf = true ∧ (Lit.int .i64 n2).wf = true ∧ (Lit.int .i64 n3).wf = true := by
  obtain ⟨ns, hl, hv', hd, hp, hw⟩ := open_ints hs he hone hty hC hv h
  obtain ⟨n0, n1, n2, n3, rfl⟩ := list4 (hl.trans h4)
  exact ⟨n0, n1, n2, n3, hv', hd, hp, hw n0 (by simp), hw n1 (by simp), hw n2 (by simp), hw n3 (by simp)⟩
theorem shut_ints4 {t e : TypeId} {fs : Array Field} {n0 n1 n2 n3 : Int} (hs : P.underlying t = some (.struct fs)) (he : P.underlying e = some (.int .i64))
    (hone : oneCellFields P fs = true) (hty : fieldsOf e fs = true) (hC : P.cellsOf t = fs.size) (h4 : fs.size = 4) (w0 : (Lit.int .i64 n0).wf = true) (w1 : (Lit.int .i64 n1).wf = true) (w2 : (Lit.int .i64 n2).wf = true) (w3 : (Lit.int .i64 n3).wf = true) :
    DataW.Trod enc P w base spare held t (.agg #[.int .i64 n0, .int .i64 n1, .int .i64 n2, .int .i64 n3]) (.agg [.lit (.int .i64 n0), .lit (.int .i64 n1), .lit (.int .i64 n2), .lit (.int .i64 n3)]) [] :=
  shut_ints (ns := [n0, n1, n2, n3]) hs he hone hty hC h4.symm (by intro m hm; simp at hm; rcases hm with rfl | rfl | rfl | rfl <;> assumption)
theorem list6 {l : List Int} (h : l.length = 6) : ∃ n0 n1 n2 n3 n4 n5, l = [n0, n1, n2, n3, n4, n5] := by
  match l, h with
  | [n0, n1, n2, n3, n4, n5], _ => exact ⟨n0, n1, n2, n3, n4, n5, rfl⟩
theorem open_ints6 {r : Reach} {b0 : Nat} {t e : TypeId} {fs : Array Field} {v : Value} {d : DataW H} {p : List MemPlace} (hs : P.underlying t = some (.struct fs)) (he : P.underlying e = some (.int .i64))
    (hone : oneCellFields P fs = true) (hty : fieldsOf e fs = true) (hC : P.cellsOf t = fs.size) (h6 : fs.size = 6) (hv : Value.okWide P w r b0 t v) (h : DataW.Trod enc P w base spare held t v d p) :
    ∃ n0 n1 n2 n3 n4 n5 : Int, v = .agg #[.int .i64 n0, .int .i64 n1, .int .i64 n2, .int .i64 n3, .int .i64 n4, .int .i64 n5] ∧ d = .agg [.lit (.int .i64 n0), .lit (.int .i64 n1), .lit (.int .i64 n2), .lit (.int .i64 n3), .lit (.int .i64 n4), .lit (.int .i64 n5)] ∧ p = [] ∧ (Lit.int .i64 n0).wf = true ∧ (Lit.int .i64 n1).wf = true ∧ (Lit.int .i64 n2).wf = true ∧ (Lit.int .i64 n3).wf = true ∧ (Lit.int .i64 n4).wf = true ∧ (Lit.int .i64 n5).wf = true := by
  obtain ⟨ns, hl, hv', hd, hp, hw⟩ := open_ints hs he hone hty hC hv h
  obtain ⟨n0, n1, n2, n3, n4, n5, rfl⟩ := list6 (hl.trans h6)
  exact ⟨n0, n1, n2, n3, n4, n5, hv', hd, hp, hw n0 (by simp), hw n1 (by simp), hw n2 (by simp), hw n3 (by simp), hw n4 (by simp), hw n5 (by simp)⟩
theorem shut_ints6 {t e : TypeId} {fs : Array Field} {n0 n1 n2 n3 n4 n5 : Int} (hs : P.underlying t = some (.struct fs)) (he : P.underlying e = some (.int .i64))
    (hone : oneCellFields P fs = true) (hty : fieldsOf e fs = true) (hC : P.cellsOf t = fs.size) (h6 : fs.size = 6) (w0 : (Lit.int .i64 n0).wf = true) (w1 : (Lit.int .i64 n1).wf = true) (w2 : (Lit.int .i64 n2).wf = true) (w3 : (Lit.int .i64 n3).wf = true) (w4 : (Lit.int .i64 n4).wf = true) (w5 : (Lit.int .i64 n5).wf = true) :
    DataW.Trod enc P w base spare held t (.agg #[.int .i64 n0, .int .i64 n1, .int .i64 n2, .int .i64 n3, .int .i64 n4, .int .i64 n5]) (.agg [.lit (.int .i64 n0), .lit (.int .i64 n1), .lit (.int .i64 n2), .lit (.int .i64 n3), .lit (.int .i64 n4), .lit (.int .i64 n5)]) [] :=
  shut_ints (ns := [n0, n1, n2, n3, n4, n5]) hs he hone hty hC h6.symm (by intro m hm; simp at hm; rcases hm with rfl | rfl | rfl | rfl | rfl | rfl <;> assumption)
end

end Go.Proofs.Ytdpfkhliechkhaa

namespace Go.Proofs.Ytdpfkhliechkhaa
open Go.RowKit Go.ChangeShapes Go.WideShapes Go.Deep
open M

section
variable {H : Type} {enc : TypeId × Value → H} {w : World} {base : Nat} {spare : Nat → Bool} {held : Bool}
theorem cells7_i64 : Try.prog.cellsOf 2 = 1 := by kernel_rfl
theorem cells7_bool : Try.prog.cellsOf 4 = 1 := by kernel_rfl
theorem cells7_pts : Try.prog.cellsOf 22 = 1 := by kernel_rfl
theorem cells7_pt : Try.prog.cellsOf 26 = 2 := by kernel_rfl
theorem cells7_path : Try.prog.cellsOf 24 = 2 := by kernel_rfl
theorem some7_at {α : Type} {xs : List α} {i n : Nat} (h : xs.length = n) (hi : i < n) : ∃ x, xs[i]? = some x := ⟨_, List.getElem?_eq_getElem (by omega)⟩
theorem int7_one {t : TypeId} {n : Nat} {c : Value} {x : Option (DataW H × List MemPlace)} (ht : Try.prog.underlying t = some (.int .i64)) (h : DataW.trod enc Try.prog w base spare held n t [c] = x) (hx : ∃ y, x = some y) : ∃ k : Int, c = .int .i64 k := by
  obtain ⟨y, rfl⟩ := hx
  obtain ⟨k, hk, _⟩ := DataW.trod_int ht h
  exact ⟨k, by simpa using hk⟩
set_option maxRecDepth 100000 in
theorem pt_cells {n : Nat} {cs : List Value} {x : DataW H × List MemPlace} (h : DataW.trod enc Try.prog w base spare held n 26 cs = some x) : ∃ p : Pt, cs = pl p := by
  obtain ⟨xs, m, _, _, hlen, hxl, hf⟩ := DataW.trod_struct Try.underlying26 h
  rw [cells7_pt] at hlen
  match cs, hlen with
  | [c0, c1], _ =>
    have f0 : DataW.trod enc Try.prog w base spare held m 2 (([c0, c1].drop 0).take (Try.prog.cellsOf 2)) = xs[0]? := hf 0 _ rfl
    have f1 : DataW.trod enc Try.prog w base spare held m 2 (([c0, c1].drop 1).take (Try.prog.cellsOf 2)) = xs[1]? := hf 1 _ rfl
    rw [cells7_i64] at f0 f1
    obtain ⟨a, rfl⟩ := int7_one Try.underlying2 f0 (some7_at hxl (by decide))
    obtain ⟨b, rfl⟩ := int7_one Try.underlying2 f1 (some7_at hxl (by decide))
    exact ⟨⟨a, b⟩, rfl⟩
set_option maxRecDepth 100000 in
theorem open_path {r : Reach} {b0 : Nat} {v : Value} {d : DataW H} {p : List MemPlace} (hv : Value.okWide Try.prog w r b0 24 v) (h : DataW.Trod enc Try.prog w base (fun _ => true) held 24 v d p) : ∃ ps, Parg w v ps := by
  obtain ⟨⟨L⟩, rfl, hs⟩ := okWide_struct Try.underlying24 hv
  rw [cells7_path] at hs
  have hl2 : L.length = 2 := by simpa using hs
  obtain ⟨fuel, hf⟩ := h
  match L, hl2 with
  | [c0, c1], _ =>
    have hf' : DataW.trod enc Try.prog w base (fun _ => true) held fuel 24 [c0, c1] = some (d, p) := hf
    obtain ⟨xs, m, _, _, _, hxl, hg⟩ := DataW.trod_struct Try.underlying24 hf'
    have f0 : DataW.trod enc Try.prog w base (fun _ => true) held m 4 (([c0, c1].drop 0).take (Try.prog.cellsOf 4)) = xs[0]? := hg 0 _ rfl
    have f1 : DataW.trod enc Try.prog w base (fun _ => true) held m 22 (([c0, c1].drop 1).take (Try.prog.cellsOf 22)) = xs[1]? := hg 1 _ rfl
    rw [cells7_bool] at f0
    rw [cells7_pts] at f1
    obtain ⟨y0, hy0⟩ := some7_at (i := 0) hxl (by decide)
    obtain ⟨y1, hy1⟩ := some7_at (i := 1) hxl (by decide)
    rw [hy0] at f0
    rw [hy1] at f1
    obtain ⟨c, hc, _⟩ := DataW.trod_bool Try.underlying4 f0
    have hc0 : c0 = .bool c := by simpa using hc
    subst hc0
    rcases open_slice Try.underlying22 (show DataW.trod enc Try.prog w base (fun _ => true) held m 22 [c1] = some y1 from f1) with ⟨hc, _⟩ | ⟨a, len, cap, m', n, D, Pl, hc, _, hl, hm, hmm, _, hi⟩
    · have hc1 : c1 = .slice none 0 0 := by simpa using hc
      subst hc1
      exact ⟨[], c, Or.inl ⟨_, rfl, psl_nil _ _ _, by simp⟩⟩
    · have hc1 : c1 = .slice (some a) len cap := by simpa using hc
      subst hc1
      rw [if_pos rfl] at hmm
      subst hmm
      by_cases h0 : len = 0
      · subst h0
        exact ⟨[], c, Or.inl ⟨_, rfl, psl_nil _ _ _, by simp⟩⟩
      · have key : ∀ i, i < len → ∃ k : Pt, ∀ j u, (pl k)[j]? = some u → w.cell? (a.add (i * 2 + j)) = some u := by
          intro i hil
          obtain ⟨cs', hcs, ht⟩ := hi i (by omega)
          obtain ⟨k, rfl⟩ := pt_cells ht
          rw [cells7_pt] at hcs
          obtain ⟨_, hcl, hat⟩ := World.cells?_some hcs
          refine ⟨k, fun j u hu => ?_⟩
          have hj : j < 2 := by
            have := (List.getElem?_eq_some_iff.1 hu).1
            simpa [pl] using this
          rw [← Go.Deep.add_add, hat j hj, hu]
        obtain ⟨f, hf'⟩ := choose_lt key
        have hspot : a.spot = none := by
          have := hf' 0 (by omega) 0 _ rfl
          simpa [Addr.add] using World.cell?_spot this
        obtain ⟨g, o, sp⟩ := a
        simp only at hspot
        subst hspot
        have row : ∀ M, M ≤ len → M ≤ 20 → Prow w g o ((List.range M).map f) := by
          intro M hM h20
          refine prow_of (by simp; omega) fun j u hu => ?_
          have hj : j < M * 2 := by
            have := (List.getElem?_eq_some_iff.1 hu).1
            rw [pls_length] at this
            simpa using this
          have e1 : j = j / 2 * 2 + j % 2 := by omega
          rw [e1] at hu ⊢
          rw [pls_at (by simp; omega) (by omega)] at hu
          rw [pt_mapIdx f (by omega)] at hu
          have := hf' (j / 2) (by omega) (j % 2) u hu
          rwa [Addr.add_lit] at this
        have h63 : len ≤ 9223372036854775807 := by
          have h := hm
          simp [maxLen] at h
          omega
        by_cases h20 : len ≤ 20
        · exact ⟨(List.range len).map f, c, Or.inl ⟨_, rfl, ⟨some ⟨g, o, none⟩, _, by simp; rfl, by simp; omega, fun _ => ⟨g, o, rfl, row len (Nat.le_refl _) h20⟩⟩, by simpa using h20⟩⟩
        · exact ⟨(List.range 20).map f, c, Or.inr ⟨g, o, len, _, rfl, by omega, h63, by omega, ⟨some ⟨g, o, none⟩, _, by simp; rfl, by simp, fun _ => ⟨g, o, rfl, row 20 (by omega) (Nat.le_refl _)⟩⟩, by simp⟩⟩
end

end Go.Proofs.Ytdpfkhliechkhaa

namespace Go.Proofs.Ytdpfkhliechkhaa
open Go.RowKit Go.ChangeShapes Go.WideShapes Go.Deep
open M

section
variable {H : Type} {enc : TypeId × Value → H} {w : World} {base : Nat} {held : Bool}
theorem cell_int : Try.prog.cellsOf 3 = 1 := by kernel_rfl
set_option maxRecDepth 100000 in
theorem open_tape {r : Reach} {b0 : Nat} {v : Value} {d : DataW H} {p : List MemPlace} (hv : Value.okWide Try.prog w r b0 32 v) (h : DataW.Trod enc Try.prog w base (fun _ => true) held 32 v d p) : ∃ _ : Unit, Nums w v := by
  refine ⟨(), ?_⟩
  obtain ⟨a0, len0, cap0, rfl⟩ := okWide_slice Try.underlying32 hv
  obtain ⟨fuel, hf⟩ := h
  rcases open_slice1 Try.underlying32 cell_int hf with ⟨hc, _⟩ | ⟨a, len, cap, m, n, V, D, Pl, hc, _, hl, hm, hmm, _, hi⟩
  · simp [Value.cells] at hc
    obtain ⟨rfl, rfl, rfl⟩ := hc
    exact Or.inl ⟨_, _, rfl⟩
  · simp [Value.cells] at hc
    obtain ⟨rfl, rfl, rfl⟩ := hc
    rw [if_pos rfl] at hmm
    subst hmm
    by_cases h0 : len0 = 0
    · subst h0
      exact Or.inl ⟨_, _, rfl⟩
    · have hspot : a.spot = none := by
        have := (hi 0 (by omega)).1
        simpa [Addr.add] using World.cell?_spot this
      obtain ⟨b, o, sp⟩ := a
      simp only at hspot
      subst hspot
      have h63 : len0 ≤ 9223372036854775807 := by
        have h := hm
        simp [maxLen] at h
        omega
      refine Or.inr ⟨b, o, len0, _, rfl, by omega, h63, fun i hil => ?_⟩
      obtain ⟨h1, h2⟩ := hi i (by omega)
      obtain ⟨k, hk, _⟩ := DataW.trod_int Try.underlying3 h2
      rw [Addr.add_lit] at h1
      refine ⟨k, h1.trans ?_⟩
      simpa using hk
end

end Go.Proofs.Ytdpfkhliechkhaa

namespace Go.Proofs.Ytdpfkhliechkhaa.pathTells
open Go.ChangeShapes Go.WideShapes Go.ChangeAt Go.RowKit

theorem post_below {H : Type} {enc : TypeId × Value → H} {P : Program} {f : Func} {s : ChangeSpec} {apart fresh handsOn : Bool} {W V : World} {args : Array Value} {v : Value} {ds gs : List (DataW H)} {before pa pv : List MemPlace}
    (hW : DataW.Whole enc P f.params.toList s.vars apart W args.toList ds gs before)
    (hres : ∀ (b : Nat) (sp : Nat → Bool) (hd : Bool), DataW.TrodAll enc P V b sp hd f.resultTypes.toList (v.resultList f.resultTypes.size) (s.fn H (ds ++ gs)).results [])
    (hargs : ∀ sp : Nat → Bool, (∀ p ∈ before, sp p.block = true) → DataW.TrodAll enc P V 0 sp true f.params.toList args.toList (s.fn H (ds ++ gs)).args pa)
    (hvars : ∀ sp : Nat → Bool, (∀ p ∈ before, sp p.block = true) → DataW.TrodVars enc P V sp s.vars (s.fn H (ds ++ gs)).vars pv)
    (hps : before = pa ++ pv) (hb : Below W.heap.size W V) : s.post enc P f apart fresh handsOn false W args v V := by
  have hl : ∀ p ∈ before, (fun b => decide (b < W.heap.size)) p.block = true := fun p hp => by simpa using hW.lt p hp
  refine ⟨ds, gs, before, [], pa, pv, hW, hres _ _ _, hargs _ hl, hvars _ hl, World.keptBut_mono (fun p hp => ⟨hp, ?_⟩) (hb.frame (· ∈ before)), fun h => by cases h⟩
  rw [hps, List.mem_append] at hp
  exact Or.inr hp

theorem own : ownKnob Try.prog.godebug = none := by kernel_rfl
theorem laid : laidOutB Try.prog = true := by kernel_rfl

set_option maxRecDepth 100000 in
theorem lifted (os : Os) (started : os.Started) (H : Type) (enc : TypeId × Value → H) :
    ReturnsInHanded {} Try.checked os 4 .any (Rows.pathTellsSpec.pre6 enc Try.prog Try.f4 Rows.pathTellsRow.domain false) (Rows.pathTellsSpec.post enc Try.prog Try.f4 false true false false) := by
  refine returnsInHanded_of_change (C := Try.checked) own started (by kernel_rfl) Try.func4
    (ChangeSpec.witness6 (enc := enc) (C := Try.checked) false ⟨#[], #[.slice none 0 0, .slice none 0 0, .int .i64 0, .agg #[.int .i64 0, .int .i64 0, .int .i64 0, .int .i64 0, .int .i64 0, .int .i64 0], .agg #[.bool false, .slice none 0 0], .int .i64 0], []⟩ 8 (by kernel_rfl) (by kernel_rfl) (by kernel_rfl) (by kernel_rfl)) ?_
  intro W base args ds gs before hval0 hW hcnd _
  have hval : ∀ (j : Nat) t v, Try.f4.params[j]? = some t → args[j]? = some v → Value.okWide Try.prog W .any base t v := hval0
  have hW' := hW
  obtain ⟨p, q, hA0, hV, rfl, hfz, hnd⟩ := hW
  have hA : DataW.TrodAll enc Try.prog W 0 (fun _ => true) true Try.f4.params.toList args.toList ds p := hA0
  rw [Try.params4] at hA hval
  obtain ⟨v0, vs0, d0, ds0, p0, q0, hargs, rfl, rfl, h0, r0⟩ := trodAll_cons hA
  obtain ⟨v1, vs1, d1, ds1, p1, q1, rfl, rfl, rfl, h1, r1⟩ := trodAll_cons r0
  obtain ⟨v2, vs2, d2, ds2, p2, q2, rfl, rfl, rfl, h2, r2⟩ := trodAll_cons r1
  obtain ⟨v3, vs3, d3, ds3, p3, q3, rfl, rfl, rfl, h3, r3⟩ := trodAll_cons r2
  obtain ⟨v4, vs4, d4, ds4, p4, q4, rfl, rfl, rfl, h4, r4⟩ := trodAll_cons r3
  obtain ⟨v5, vs5, d5, ds5, p5, q5, rfl, rfl, rfl, h5, r5⟩ := trodAll_cons r4
  obtain ⟨rfl, rfl, rfl⟩ := trodAll_nil r5
  obtain rfl : args = #[v0, v1, v2, v3, v4, v5] := by cases args; simp_all
  obtain ⟨rfl, rfl⟩ := trodVars_none hV
  obtain ⟨a0, w0⟩ := open_tape (hval 0 32 v0 rfl rfl) h0
  obtain ⟨a1, w1⟩ := open_tape (hval 1 32 v1 rfl rfl) h1
  obtain ⟨a2, rfl, rfl, rfl, w2⟩ := open_int Try.underlying2 (hval 2 2 v2 rfl rfl) h2
  obtain ⟨a3_0, a3_1, a3_2, a3_3, a3_4, a3_5, rfl, rfl, rfl, w3_0, w3_1, w3_2, w3_3, w3_4, w3_5⟩ := open_ints6 Try.underlying30 Try.underlying2 (by kernel_rfl) (by kernel_rfl) (by kernel_rfl) rfl (hval 3 30 v3 rfl rfl) h3
  obtain ⟨a4, w4⟩ := open_path (hval 4 24 v4 rfl rfl) h4
  obtain ⟨a5, rfl, rfl, rfl, w5⟩ := open_int Try.underlying3 (hval 5 3 v5 rfl rfl) h5
  clear hA0 hval0
  simp only [List.append_nil] at hW'
  refine (pathTells_walk (w := W) v0 a0 v1 a1 a2 a3_0 a3_1 a3_2 a3_3 a3_4 a3_5 v4 a4 a5 w0 w1 w4).mono fun e W' ⟨he, hg⟩ => ?_
  subst he
  exact ⟨_, rfl, post_below (pv := []) hW' (fun _ _ _ => (trodAll_cons_mk (shut_bool Try.underlying4 _) trodAll_mk0)) (fun sp hsp => (trodAll_cons_mk (WideElems.Trod_stays laid (by kernel_rfl) (of_decide_eq_true (by kernel_rfl)) h0 (fun x hx => hg.same (by simpa using hW'.lt x (by simp [hx]))) (fun x hx => hsp x (by simp [hx]))) (trodAll_cons_mk (WideElems.Trod_stays laid (by kernel_rfl) (of_decide_eq_true (by kernel_rfl)) h1 (fun x hx => hg.same (by simpa using hW'.lt x (by simp [hx]))) (fun x hx => hsp x (by simp [hx]))) (trodAll_cons_mk (shut_int Try.underlying2 w2) (trodAll_cons_mk (shut_ints6 Try.underlying30 Try.underlying2 (by kernel_rfl) (by kernel_rfl) (by kernel_rfl) rfl w3_0 w3_1 w3_2 w3_3 w3_4 w3_5) (trodAll_cons_mk (WideElems.Trod_stays laid (by kernel_rfl) (of_decide_eq_true (by kernel_rfl)) h4 (fun x hx => hg.same (by simpa using hW'.lt x (by simp [hx]))) (fun x hx => hsp x (by simp [hx]))) (trodAll_cons_mk (shut_int Try.underlying3 w5) trodAll_mk0))))))) (fun _ _ => rfl) (by simp) hg⟩

theorem over : Rows.pathTellsRow.holds Try.pinned (OpenSpec.ofChange Rows.pathTellsSpec) :=
  OpenClaim.holds_of_wide 4 Try.f4 rfl rfl rfl rfl rfl rfl rfl ⟨rfl, rfl, rfl, rfl, rfl⟩ rfl rfl rfl rfl rfl (by kernel_rfl) Try.func4 (by kernel_rfl)
    (of_decide_eq_true (by kernel_rfl)) (by unfold Func.isWrapper; first | (rw [if_pos (by decide +kernel)]; kernel_rfl) | (rw [if_neg (by decide +kernel)]; exact ⟨rfl, rfl⟩))
    (fun os started H enc _ => lifted os started H enc)

end Go.Proofs.Ytdpfkhliechkhaa.pathTells
namespace Go.Proofs.Ytdpfkhliechkhaa
theorem pathTells_holds : Rows.PathTellsSaid := pathTells.over
#print axioms pathTells_holds
end Go.Proofs.Ytdpfkhliechkhaa
