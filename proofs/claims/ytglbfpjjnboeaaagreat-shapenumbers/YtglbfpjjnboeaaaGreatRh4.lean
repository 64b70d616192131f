/- Contracts of mutoscoperef13.near, .Paint, .Right: for all shapes what the plain data says; of the memory nothing that was there turns. -/
import Derived.Test.YtglbfpjjnboeaaaGreatPMath
import Derived.Test.YtglbfpjjnboeaaaGreatTMath
import Derived.Test.YtglbfpjjnboeaaaGreatRK5
import Derived.Test.YtglbfpjjnboeaaaGreatRA7
import Derived.Test.YtglbfpjjnboeaaaGreatQ8
import Derived.Test.YtglbfpjjnboeaaaGreatPB
import Derived.Test.YtglbfpjjnboeaaaGreatKMath
import Derived.Test.YtglbfpjjnboeaaaGreatK4
import Derived.Test.YtglbfpjjnboeaaaGreatQt
import Derived.Test.YtglbfpjjnboeaaaGreatK5
import Derived.Test.YtglbfpjjnboeaaaGreatKR5
import Derived.Test.YtglbfpjjnboeaaaGreatKE5
import Derived.Test.YtglbfpjjnboeaaaGreatMKK
import Derived.Test.YtglbfpjjnboeaaaGreatKA5
import Derived.Test.YtglbfpjjnboeaaaGreatKA7
import Derived.Test.YtglbfpjjnboeaaaGreatGen
import Derived.Test.YtglbfpjjnboeaaaGreatT5
import Derived.Test.YtglbfpjjnboeaaaGreatTK5
import Derived.Test.YtglbfpjjnboeaaaGreatD
import Derived.Laws.Rows
namespace Go.Proofs.YtglbfpjjnboeaaaGreat
namespace M

/-- The path behind the first n sides of a ring of places. -/
def strN (ps : List Pt) : Nat → List Pt
  | 0 => [pt ps 0]
  | n + 1 => strN ps n ++ [pt ps n, pt ps ((n + 1) % ps.length), pt ps ((n + 1) % ps.length)]
def straightL (ps : List Pt) : List Pt := strN ps ps.length
theorem strN_length (ps : List Pt) : ∀ n, (strN ps n).length = 3 * n + 1
  | 0 => rfl
  | n + 1 => by unfold strN; rw [List.length_append, strN_length ps n]; simp; omega
theorem straightL_length (ps : List Pt) : (straightL ps).length = 3 * ps.length + 1 := strN_length _ _
def rectP (w h : Int) : List Pt := [⟨-(w / 2), -(h / 2)⟩, ⟨w - w / 2, -(h / 2)⟩, ⟨w - w / 2, h - h / 2⟩, ⟨-(w / 2), h - h / 2⟩]
def rectL (w h : Int) : List Pt := straightL (rectP w h)
def ovalN (a b k l : Int) : List Pt := [⟨a, 0⟩, ⟨a, l⟩, ⟨k, b⟩, ⟨0, b⟩, ⟨-k, b⟩, ⟨-a, l⟩, ⟨-a, 0⟩, ⟨-a, -l⟩, ⟨-k, -b⟩, ⟨0, -b⟩, ⟨k, -b⟩, ⟨a, -l⟩, ⟨a, 0⟩]
def ovalL (w h : Int) : List Pt := ovalN (w / 2) (h / 2) (mul (w / 2) 36195) (mul (h / 2) 36195)
/-- How many points a star has. -/
def points (n : Int) : Int := clamp n 2 16
def angle (c : Int) (j : Nat) : Int := (j * 11796480) / c - 5898240
def starP (c r s : Int) (j : Nat) : Pt := ⟨mul (if j % 2 = 1 then s else r) (cos (angle c j)), mul (if j % 2 = 1 then s else r) (sin (angle c j))⟩
def starN (c r s : Int) (n : Nat) : List Pt := (List.range n).map (starP c r s)
def starL (n r s : Int) : List Pt := straightL (starN (points n) r s (2 * (points n).toNat))
theorem starN_length (c r s : Int) (n : Nat) : (starN c r s n).length = n := by simp [starN]
theorem starN_snoc (c r s : Int) (n : Nat) : starN c r s (n + 1) = starN c r s n ++ [starP c r s n] := by unfold starN; rw [List.range_succ]; simp

end M
end Go.Proofs.YtglbfpjjnboeaaaGreat

namespace Go.Proofs.YtglbfpjjnboeaaaGreat
open Go.RowKit
open M

theorem r5_moves (t h a b c d : Int) (w : World) :
    Calls Tryz.prog 58 #[.int .i64 t, .int .i64 h, .agg #[.int .i64 a, .int .i64 b, .int .i64 c, .int .i64 d]] w fun e w' => e = .returned (.bool (okIn t 1073741824 && okHow h a b c d)) ∧ Below w.heap.size w w' := by
  have hp : ∃ p, okIn t 1073741824 = p ∧ (decide (-1073741824 ≤ t) && decide (t ≤ 1073741824)) = p := ⟨_, rfl, rfl⟩
  obtain ⟨p, hp, hp'⟩ := hp
  rw [hp]
  have P := Lib.hid hp'
  clear hp hp'
  cases p with
  | false =>
    go_enter Tryz.func58, Tryz.ntmps58
    go_wp2_with (first | (go_at_call 59; refine (r5_within _ _ _ _).mono ?_; rintro e w' ⟨rfl, rfl⟩; rw [P.out]))
    go_ret
    exact ⟨by simp, (Below.refl _ _).alloc (Nat.le_refl _) _⟩
  | true =>
    by_cases h2 : h = 2
    · subst h2
      rw [show okHow 2 a b c d = okE a b c d by simp [okHow]]
      go_enter Tryz.func58, Tryz.ntmps58
      go_wp2_with (first | (go_at_call 59; refine (r5_within _ _ _ _).mono ?_; rintro e w' ⟨rfl, rfl⟩; rw [P.out]))
      refine (r5_ease _ _ _ _ _).mono ?_
      rintro e w1 ⟨rfl, hq⟩
      obtain ⟨_, HB⟩ := k4_keep has_new0 hq
      clear hq
      have HBB := Lib.hid HB
      clear HB
      go_wp2
      go_ret
      exact ⟨by simp, HBB.out⟩
    · by_cases h0 : h = 0 ∨ h = 1
      · rw [show okHow h a b c d = decide (a = 0 ∧ b = 0 ∧ c = 0 ∧ d = 0) from if_pos h0]
        rcases h0 with rfl | rfl
        · go_enter Tryz.func58, Tryz.ntmps58
          go_wp2_with (first | (go_at_call 59; refine (r5_within _ _ _ _).mono ?_; rintro e w' ⟨rfl, rfl⟩; rw [P.out]))
          all_goals
            go_ret
            exact ⟨by simp [*], (Below.refl _ _).alloc (Nat.le_refl _) _⟩
        · go_enter Tryz.func58, Tryz.ntmps58
          go_wp2_with (first | (go_at_call 59; refine (r5_within _ _ _ _).mono ?_; rintro e w' ⟨rfl, rfl⟩; rw [P.out]))
          all_goals
            go_ret
            exact ⟨by simp [*], (Below.refl _ _).alloc (Nat.le_refl _) _⟩
      · rw [show okHow h a b c d = false by simp [okHow, h0, h2]]
        have h00 : ¬ h = 0 := fun e => h0 (Or.inl e)
        have h01 : ¬ h = 1 := fun e => h0 (Or.inr e)
        clear h0
        go_enter Tryz.func58, Tryz.ntmps58
        go_wp2_with (first | (go_at_call 59; refine (r5_within _ _ _ _).mono ?_; rintro e w' ⟨rfl, rfl⟩; rw [P.out]))
        go_ret
        exact ⟨by simp, (Below.refl _ _).alloc (Nat.le_refl _) _⟩

theorem r5_right0 (ao : Option Addr) (cap : Nat) (w : World) :
    Calls Tryz.prog 31 #[.slice ao 0 cap] w fun e w' => e = .returned (.bool true) ∧ Below w.heap.size w w' := by
  go_enter Tryz.func31, Tryz.ntmps31
  go_wp2
  go_loop [3] (fun i => i = .int .i64 0) (fun _ => 0)
  case atStart => rfl
  case round =>
    subst hrel
    go_wp2
    go_ret
    exact ⟨rfl, Below.refl _ _⟩

set_option maxHeartbeats 2000000 in
theorem r5_right1 (g o cap : Nat) (ks : List Ky) (w : World) (hr : Row w g o ks) (hn : 0 < ks.length) :
    Calls Tryz.prog 31 #[.slice (some ⟨g, o, none⟩) ks.length cap] w fun e w' => e = .returned (.bool (right ks)) ∧ Below w.heap.size w w' := by
  have hf := hr.few
  have hg := hr.lt hn
  have HR := Lib.hid hr
  clear hr
  obtain ⟨R, hR⟩ : ∃ R, right ks = R := ⟨_, rfl⟩
  rw [hR]
  have RR := Lib.hid hR
  clear hR
  go_enter Tryz.func31, Tryz.ntmps31
  go_wp2
  go_loopw [3] (fun i wr => ∃ n : Nat, n ≤ ks.length ∧ i = .int .i64 n ∧ rightN ks n = true ∧ Below w.heap.size w wr) (fun i _ => ks.length - (intOf i).toNat)
  case atStart => exact ⟨0, by omega, rfl, rfl, Below.refl _ _⟩
  case round =>
    obtain ⟨n, hn', rfl, he, hb⟩ := hrel
    have HE := Lib.hid he
    have HB := Lib.hid hb
    clear he hb
    by_cases hlt : n < ks.length
    · have hr' := fun (z : Later wr) => (HR.out.below HB.out hg).later hn z
      have c0 := fun z => (hr' z).c0 n hlt
      have c1 := fun z => (hr' z).c1 n hlt
      have c2 := fun z => (hr' z).c2 n hlt
      have c3 := fun z => (hr' z).c3 n hlt
      have c4 := fun z => (hr' z).c4 n hlt
      have c5 := fun z => (hr' z).c5 n hlt
      have c6 := fun z => (hr' z).c6 n hlt
      have o1 : (n : Int) < ks.length := by omega
      obtain ⟨p, hp⟩ : ∃ p, (okIn (ky ks n).t 1073741824 && okHow (ky ks n).h (ky ks n).a (ky ks n).b (ky ks n).c (ky ks n).d) = p := ⟨_, rfl⟩
      obtain ⟨q, hq⟩ : ∃ q, okIn (ky ks n).v 67108864 = q := ⟨_, rfl⟩
      have hk : okK (ky ks n) = (p && q) := by
        unfold okK; rw [← hp, ← hq]
        cases okIn (ky ks n).t 1073741824 <;> cases okIn (ky ks n).v 67108864 <;> simp
      have m1 := fun (z : Later wr) => r5_moves (ky ks n).t (ky ks n).h (ky ks n).a (ky ks n).b (ky ks n).c (ky ks n).d z.to
      have m2 := fun (z : Later wr) => r5_within (ky ks n).v (-67108864) 67108864 z.to
      rw [hp] at m1
      rw [show (decide (-67108864 ≤ (ky ks n).v) && decide ((ky ks n).v ≤ 67108864)) = q from hq] at m2
      have M1 := Lib.hid m1
      have M2 := Lib.hid m2
      have HK := Lib.hid hk
      clear hp hq hk m1 m2
      cases p with
      | false =>
        have er : R = false := by
          rw [← RR.out]; unfold right
          rw [rightN_off (m := n + 1) (by omega) (by simp [rightN, HK.out])]; simp
        subst er
        go_wp2_with fail
        refine wp_region_class (C := fun w' => ∃ z : Later wr, w' = z.to) (by kernel_rfl) (by kernel_rfl) ⟨⟨_, below_drew (Below.refl _ _)⟩, rfl⟩ ?_
        repeat (go_big_quiet_step (first | (go_at_call 58; exact Later.calls (M1.out _)) | (go_at_call 59; exact Later.calls (below_of (M2.out _)))))
        refine wpQuiet_nil ?_
        rintro _ ⟨z, rfl⟩
        go_wp2
        go_ret
        exact ⟨rfl, HB.out.trans (z.below.mono HB.out.size)⟩
      | true =>
        cases q with
        | false =>
          have er : R = false := by
            rw [← RR.out]; unfold right
            rw [rightN_off (m := n + 1) (by omega) (by simp [rightN, HK.out])]; simp
          subst er
          go_wp2_with fail
          refine wp_region_class (C := fun w' => ∃ z : Later wr, w' = z.to) (by kernel_rfl) (by kernel_rfl) ⟨⟨_, below_drew (Below.refl _ _)⟩, rfl⟩ ?_
          repeat (go_big_quiet_step (first | (go_at_call 58; exact Later.calls (M1.out _)) | (go_at_call 59; exact Later.calls (below_of (M2.out _)))))
          refine wpQuiet_nil ?_
          rintro _ ⟨z, rfl⟩
          go_wp2
          go_ret
          exact ⟨rfl, HB.out.trans (z.below.mono HB.out.size)⟩
        | true =>
          by_cases h0 : n = 0
          · subst h0
            clear hr'
            simp only [Nat.zero_mul, Nat.add_zero] at c0 c1 c2 c3 c4 c5 c6
            have o0 : (0 : Int) < ks.length := by omega
            clear o1
            go_wp2_with fail
            refine wp_region_class (C := fun w' => ∃ z : Later wr, w' = z.to) (by kernel_rfl) (by kernel_rfl) ⟨⟨_, below_drew (Below.refl _ _)⟩, rfl⟩ ?_
            repeat (go_big_quiet_step (first | (go_at_call 58; exact Later.calls (M1.out _)) | (go_at_call 59; exact Later.calls (below_of (M2.out _)))))
            refine wpQuiet_nil ?_
            rintro _ ⟨z, rfl⟩
            go_wp2
            go_roundw
            case rel => exact ⟨1, by omega, by go_num, by simp [rightN, HK.out], HB.out.trans (z.below.mono HB.out.size)⟩
            case measure => simp [intOf]; omega
          · obtain ⟨m, hm⟩ : ∃ m : Nat, n = m + 1 := ⟨n - 1, by omega⟩
            have e1 : (n : Int) - 1 = (m : Int) := by omega
            have o2 : (m : Int) < ks.length := by omega
            have o3 : 0 < n := by omega
            have d0 := fun z => (hr' z).c0 m (by omega)
            have hx : rightN ks (n + 1) = decide ((ky ks m).t < (ky ks n).t) := by unfold rightN; rw [HE.out, HK.out, hm]; simp
            have HX := Lib.hid hx
            clear hm hx hr'
            by_cases hc : (ky ks m).t < (ky ks n).t
            · go_wp2_with fail
              refine wp_region_class (C := fun w' => ∃ z : Later wr, w' = z.to) (by kernel_rfl) (by kernel_rfl) ⟨⟨_, below_drew (Below.refl _ _)⟩, rfl⟩ ?_
              repeat (go_big_quiet_step (first | (go_at_call 58; exact Later.calls (M1.out _)) | (go_at_call 59; exact Later.calls (below_of (M2.out _)))))
              refine wpQuiet_nil ?_
              rintro _ ⟨z, rfl⟩
              go_wp2
              go_roundw
              case rel => exact ⟨n + 1, by omega, by go_num, by rw [HX.out]; simpa using hc, HB.out.trans (z.below.mono HB.out.size)⟩
              case measure => simp [intOf]; omega
            · have er : R = false := by
                rw [← RR.out]; unfold right
                rw [rightN_off (m := n + 1) (by omega) (by rw [HX.out]; simpa using hc)]; simp
              subst er
              go_wp2_with fail
              refine wp_region_class (C := fun w' => ∃ z : Later wr, w' = z.to) (by kernel_rfl) (by kernel_rfl) ⟨⟨_, below_drew (Below.refl _ _)⟩, rfl⟩ ?_
              repeat (go_big_quiet_step (first | (go_at_call 58; exact Later.calls (M1.out _)) | (go_at_call 59; exact Later.calls (below_of (M2.out _)))))
              refine wpQuiet_nil ?_
              rintro _ ⟨z, rfl⟩
              go_wp2
              go_ret
              exact ⟨rfl, HB.out.trans (z.below.mono HB.out.size)⟩
    · have en : n = ks.length := by omega
      have er : R = decide ((ks.length : Int) ≤ 32) := by
        have h1 : rightN ks ks.length = true := en ▸ HE.out
        rw [← RR.out]; unfold right; rw [h1, Bool.and_true]
        exact decide_eq_decide.2 (by omega)
      subst er
      clear RR HE
      subst en
      go_wp2
      all_goals
        go_ret
        exact ⟨by simp [*], HB.out⟩
theorem r5_right {v : Value} {ks : List Ky} {w : World} (h : Sl w v ks) :
    Calls Tryz.prog 31 #[v] w fun e w' => e = .returned (.bool (right ks)) ∧ Below w.heap.size w w' := by
  rcases h with ⟨rfl, ao, cap, rfl⟩ | ⟨hn, g, o, cap, rfl, hr⟩
  · exact r5_right0 ao cap w
  · exact r5_right1 g o cap ks w hr hn

end Go.Proofs.YtglbfpjjnboeaaaGreat

namespace Go.Proofs.YtglbfpjjnboeaaaGreat
open Go.RowKit
open M

/-- Keys of paths as a tape makes them. -/
structure Mkd (ks : List Pk) : Prop where
  few : ks.length ≤ 4
  how : ∀ i, i < ks.length → (pk ks i).h = 0 ∨ (pk ks i).h = 1
  plain : ∀ i, i < ks.length → (pk ks i).a = 0 ∧ (pk ks i).b = 0 ∧ (pk ks i).c = 0 ∧ (pk ks i).d = 0
  tick : ∀ i, i < ks.length → 0 ≤ (pk ks i).t ∧ (pk ks i).t ≤ 100
  up : ∀ i, i + 1 < ks.length → (pk ks i).t < (pk ks (i + 1)).t
  small : ∀ i, i < ks.length → Small (pk ks i).ps
  form : ∀ i, i < ks.length → ∃ n, 1 ≤ n ∧ n ≤ 6 ∧ (pk ks i).ps.length = 3 * n + 1
def fitN (ks : List Pk) : Nat → Bool
  | 0 => true
  | n + 1 => fitN ks n && fits (pk ks 0).cl (pk ks 0).ps (pk ks n).cl (pk ks n).ps
theorem fitN_off {ks : List Pk} {n i : Nat} (hi : i < n) (h : fits (pk ks 0).cl (pk ks 0).ps (pk ks i).cl (pk ks i).ps = false) : fitN ks n = false := by
  induction n with
  | zero => omega
  | succ n ih =>
    unfold fitN
    by_cases e : i = n
    · subst e; rw [h]; simp
    · rw [ih (by omega)]; rfl
theorem Mkd.okP {ks : List Pk} (h : Mkd ks) {i : Nat} (hi : i < ks.length) : okP (pk ks i).cl (pk ks i).ps = true := by
  obtain ⟨n, n1, n2, hl⟩ := h.form i hi
  rw [okP_pos (by omega), (h.small i hi).near]
  simp [okLen]
  omega
theorem Mkd.pos {ks : List Pk} (h : Mkd ks) {i : Nat} (hi : i < ks.length) : 0 < (pk ks i).ps.length ∧ (pk ks i).ps.length ≤ 19 := by
  obtain ⟨n, n1, n2, hl⟩ := h.form i hi
  omega
theorem Mkd.okHow {ks : List Pk} (h : Mkd ks) {i : Nat} (hi : i < ks.length) : okHow (pk ks i).h (pk ks i).a (pk ks i).b (pk ks i).c (pk ks i).d = true := by
  obtain ⟨a, b, c, d⟩ := h.plain i hi
  unfold M.okHow
  rw [if_pos (h.how i hi)]
  simp [a, b, c, d]
theorem Mkd.rightN {ks : List Pk} (h : Mkd ks) : ∀ n, n ≤ ks.length → rightN (barep ks) n = true
  | 0, _ => rfl
  | n + 1, hn => by
    have hi : n < ks.length := by omega
    have t1 := h.tick n hi
    unfold M.rightN
    rw [h.rightN n (by omega), ky_barep hi]
    have e : okK (barev (pk ks n) 0) = true := by
      unfold okK barev okIn
      simp only [h.okHow hi]
      simp
      omega
    rw [e]
    by_cases e0 : n = 0
    · simp [e0]
    · rw [ky_barep (by omega)]
      have := h.up (n - 1) (by omega)
      rw [show n - 1 + 1 = n by omega] at this
      have e2 : decide ((barev (pk ks (n - 1)) 0).t < (barev (pk ks n) 0).t) = true := decide_eq_true this
      rw [e2]
      simp
theorem Mkd.right {ks : List Pk} (h : Mkd ks) : right (barep ks) = true := by
  unfold M.right
  rw [barep_length, h.rightN _ (Nat.le_refl _)]
  have := h.few
  simp
  omega
theorem fits_comm (c d : Bool) (ps qs : List Pt) : fits c ps d qs = fits d qs c ps := by
  unfold fits
  rw [show (c == d) = (d == c) by cases c <;> cases d <;> rfl, show decide (ps.length = qs.length) = decide (qs.length = ps.length) by simp [eq_comm]]
theorem Ht.four {W w' : World} {ga g o : Nat} {x : Pk} {ks : List Pk} {t : TypeId} (h : Ht W w') (H0 : Has W ga (pkCells x) t) (r : Krow W g o ks) (hn : 0 < ks.length) :
    Ht W w' ∧ w'.cell? ⟨ga, 1, none⟩ = some (.bool x.cl) ∧ w'.cell? ⟨ga, 2, none⟩ = some x.v ∧ w'.cell? ⟨g, o + 1, none⟩ = some (.bool (pk ks 0).cl) ∧ w'.cell? ⟨g, o + 2, none⟩ = some (pk ks 0).v := by
  have K0 := H0.below h.below H0.lt
  have r' := r.below h.below (r.lt hn) (Nat.le_refl _)
  have a := r'.c1 0 hn
  have b := r'.c2 0 hn
  simp only [Nat.zero_mul, Nat.add_zero] at a b
  exact ⟨h, K0.cell 1 _ rfl, K0.cell 2 _ rfl, a, b⟩

set_option maxHeartbeats 2000000 in
theorem p_keys {v : Value} {ks : List Pk} {w : World} (h : Kl w v ks) (hm : Mkd ks) :
    Calls Tryz.prog 54 #[v] w fun e w' => e = .returned (.bool (fitN ks ks.length)) ∧ Below w.heap.size w w' := by
  have BK := Lib.hid (p_bareKeys h)
  have hs := h
  obtain ⟨ao, cap, rfl, hf, _⟩ := h
  obtain ⟨N, hN⟩ : ∃ N, ks.length = N := ⟨_, rfl⟩
  have f4 : N ≤ 4 := by rw [← hN]; exact hm.few
  rw [hN] at hf hs BK ⊢
  have HS := Lib.hid hs
  have HN := Lib.hid hN
  have HM := Lib.hid hm
  obtain ⟨B, hB⟩ : ∃ B, w.heap.size = B := ⟨_, rfl⟩
  have HB := Lib.hid hB
  clear hs hN hm hB hf
  have o0 : (N : Int) ≤ 32 := by omega
  go_enter Tryz.func54, Tryz.ntmps54
  go_wp2_with fail
  refine BK.out.mono ?_
  rintro e w1 ⟨vb, rfl, hob, hq1⟩
  have S1 := Lib.hid (hob.sl (by rw [barep_length, HN.out]; omega))
  have Q1 : Hid (Below B w w1) := Lib.hid (by rw [← HB.out]; exact hq1)
  have z1 : Hid (B ≤ w1.heap.size) := Lib.hid (by have := hq1.size; have := HB.out; omega)
  clear hob hq1 BK
  go_wp2_with fail
  refine (k_right S1.out).mono ?_
  rw [HM.out.right]
  rintro e w2 ⟨rfl, hq2⟩
  have Q2 := Lib.hid (Q1.out.trans (hq2.mono z1.out))
  have z2 : Hid (B ≤ w2.heap.size) := Lib.hid (by have := hq2.size; have := z1.out; omega)
  clear hq2 S1 Q1 z1
  go_wp2_with fail
  go_loopw [4, 16] (fun _ i wr => ∃ n : Nat, n ≤ N ∧ i = .int .i64 n ∧ fitN ks n = true ∧ Below B w wr) (fun _ i _ => N - (intOf i).toNat)
  case atStart => exact ⟨0, by omega, rfl, rfl, Q2.out⟩
  case round =>
    clear Q2 z2
    obtain ⟨n, hn, rfl, hst, hb⟩ := hrel
    have HST := Lib.hid hst
    have HBD := Lib.hid hb
    have sz : B ≤ wr.heap.size := by have := hb.size; have := HB.out; omega
    clear hst
    by_cases hlt : n < N
    · obtain ⟨g, o, e1, r0, l0⟩ := HS.out.row (by omega)
      have rr := r0.below hb (by have := r0.lt (by omega); have := HB.out; omega) (by have := HB.out; omega)
      subst e1
      have c0 := rr.c0 n (by omega)
      have c1 := rr.c1 n (by omega)
      have c2 := rr.c2 n (by omega)
      have c3 := rr.c3 n (by omega)
      have c4 := rr.c4 n (by omega)
      have c5 := rr.c5 n (by omega)
      have c6 := rr.c6 n (by omega)
      have c7 := rr.c7 n (by omega)
      have sx := rr.sl n (by omega)
      have s0 := rr.sl 0 (by omega)
      have ok := HM.out.okP (i := n) (by omega)
      have ne := (HM.out.pos (i := n) (by omega)).1
      obtain ⟨f, hf⟩ : ∃ f, fits (pk ks 0).cl (pk ks 0).ps (pk ks n).cl (pk ks n).ps = f := ⟨_, rfl⟩
      obtain ⟨x, ex⟩ : ∃ x, pk ks n = x := ⟨_, rfl⟩
      obtain ⟨V, hV⟩ : ∃ V, wr.alloc (.cells (pkCells x) 43) = V := ⟨_, rfl⟩
      have bV : Below wr.heap.size wr V := by rw [← hV]; exact (Below.refl _ _).alloc (Nat.le_refl _) _
      have KX : Has V wr.heap.size (pkCells x) 43 := by rw [← hV]; exact has_new rfl
      have rV := rr.below bV (rr.lt (by omega)) (Nat.le_refl _)
      rw [ex] at c0 c1 c2 c3 c4 c5 c6 c7 sx ok ne hf
      have FF := Lib.hid (by rw [← ex] at hf; exact hf)
      have EM : Hid (∀ w', Ht V w' → Calls Tryz.prog 85 #[.agg #[.bool x.cl, x.v]] w' fun e w'' => e = .returned (.bool false) ∧ Below w'.heap.size w' w'') := Lib.hid (fun w' h => by have := p_empty x.cl ((sx.below bV (Nat.le_refl _)).ht h); rw [decide_eq_false (by omega)] at this; exact this)
      have RT : Hid (∀ w', Ht V w' → Calls Tryz.prog 86 #[.agg #[.bool x.cl, x.v]] w' fun e w'' => e = .returned (.bool true) ∧ Below w'.heap.size w' w'') := Lib.hid (fun w' h => by have := p_right x.cl ((sx.below bV (Nat.le_refl _)).ht h); rw [ok] at this; exact this)
      have FT : Hid (∀ w', Ht V w' → Calls Tryz.prog 87 #[.agg #[.bool (pk ks 0).cl, (pk ks 0).v], .agg #[.bool x.cl, x.v]] w' fun e w'' => e = .returned (.bool f) ∧ Below w'.heap.size w' w'') := Lib.hid (fun w' h => by have := p_fits (pk ks 0).cl x.cl ((s0.below bV (Nat.le_refl _)).ht h) ((sx.below bV (Nat.le_refl _)).ht h); rw [hf] at this; exact this)
      have SS := Lib.hid (fun (w' : World) (h : Ht V w') => h.four KX rV (show 0 < ks.length by omega))
      have hx := sx.shape
      have h0 := s0.shape
      have HV := Lib.hid hV
      have o1 : (n : Int) < N := by omega
      have oz : (0 : Int) < N := by omega
      have oy : 0 < N := by omega
      have H0 : Hid (Ht V V) := Lib.hid (Ht.refl V)
      have BV : Hid (Below B w V) := Lib.hid (HBD.out.trans (bV.mono sz))
      have zV : Hid (B ≤ V.heap.size) := Lib.hid (by have := bV.size; omega)
      obtain ⟨xt, xcl, xv, xps, xh, xa, xb, xcc, xd⟩ := x
      obtain ⟨xo, xn, xc, e1⟩ := hx
      obtain ⟨y, ey⟩ : ∃ x, pk ks 0 = x := ⟨_, rfl⟩
      rw [ey] at h0 SS FT
      obtain ⟨yt, ycl, yv, yps, yh, ya, yb, ycc, yd⟩ := y
      obtain ⟨yo, yn, yc, e2⟩ := h0
      simp only at e1 e2
      subst e1 e2
      simp only at c0 c1 c2 c3 c4 c5 c6 c7
      clear rr r0 l0 hb sx s0 ok ne hf ex ey hV bV KX rV HS
      cases f
      · have EF := Lib.hid (fitN_off hlt FF.out)
        go_upto_region 6 with fail
        rw [HV.out]
        clear c0 c1 c2 c3 c4 c5 c6 c7
        go_region_held3 (fun w' => Ht V w' ∧ w'.cell? ⟨wr.heap.size, 1, none⟩ = some (.bool xcl) ∧ w'.cell? ⟨wr.heap.size, 2, none⟩ = some (.slice xo xn xc) ∧ w'.cell? ⟨g, o + 1, none⟩ = some (.bool ycl) ∧ w'.cell? ⟨g, o + 2, none⟩ = some (.slice yo yn yc))
          ((go_split_ands; first | exact SS.out _ H0.out.drew | exact SS.out _ (by assumption)))
          (first
            | (go_at_call 87; refine (FT.out _ h2).mono ?_; rintro e w3 ⟨rfl, hq3⟩; have h3 := Ht.call h2 hq3)
            | (go_at_call 86; refine (RT.out _ h1).mono ?_; rintro e w2' ⟨rfl, hq2⟩; have h2 := Ht.call h1 hq2)
            | (go_at_call 85; refine (EM.out _ H0.out.drew).mono ?_; rintro e w1' ⟨rfl, hq1⟩; have h1 := Ht.call H0.out.drew hq1))
        all_goals
          have R := Lib.hid (BV.out.trans (h3.below.mono zV.out))
          clear h1 h2 h3
          go_wp2
          go_ret
          exact ⟨by rw [EF.out]; rfl, by rw [HB.out]; exact R.out⟩
      · go_upto_region 6 with fail
        rw [HV.out]
        clear c0 c1 c2 c3 c4 c5 c6 c7
        go_region_held3 (fun w' => Ht V w' ∧ w'.cell? ⟨wr.heap.size, 1, none⟩ = some (.bool xcl) ∧ w'.cell? ⟨wr.heap.size, 2, none⟩ = some (.slice xo xn xc) ∧ w'.cell? ⟨g, o + 1, none⟩ = some (.bool ycl) ∧ w'.cell? ⟨g, o + 2, none⟩ = some (.slice yo yn yc))
          ((go_split_ands; first | exact SS.out _ H0.out.drew | exact SS.out _ (by assumption)))
          (first
            | (go_at_call 87; refine (FT.out _ h2).mono ?_; rintro e w3 ⟨rfl, hq3⟩; have h3 := Ht.call h2 hq3)
            | (go_at_call 86; refine (RT.out _ h1).mono ?_; rintro e w2' ⟨rfl, hq2⟩; have h2 := Ht.call h1 hq2)
            | (go_at_call 85; refine (EM.out _ H0.out.drew).mono ?_; rintro e w1' ⟨rfl, hq1⟩; have h1 := Ht.call H0.out.drew hq1))
        all_goals
          have R := Lib.hid (BV.out.trans (h3.below.mono zV.out))
          clear h1 h2 h3
          go_wp2
          go_roundw
          case rel => exact ⟨n + 1, by omega, by go_num, by unfold fitN; rw [HST.out, FF.out]; rfl, R.out⟩
          case measure => simp [intOf]; omega
    · obtain rfl : n = N := by omega
      have o1 : (n : Int) ≤ n := by omega
      clear hb
      go_wp2
      go_ret
      exact ⟨by rw [HST.out]; rfl, by rw [HB.out]; exact HBD.out⟩

end Go.Proofs.YtglbfpjjnboeaaaGreat

namespace Go.Proofs.YtglbfpjjnboeaaaGreat
open Go.RowKit
open M

/-- The first n paths are some, right, and fit the first. -/
def allN (ks : List Pk) : Nat → Bool
  | 0 => true
  | n + 1 => allN ks n && (!decide ((pk ks n).ps.length = 0) && okP (pk ks n).cl (pk ks n).ps && fits (pk ks 0).cl (pk ks 0).ps (pk ks n).cl (pk ks n).ps)
def keysOk (ks : List Pk) : Bool := right (barep ks) && allN ks ks.length
theorem allN_off {ks : List Pk} {n m : Nat} (hm : n + 1 ≤ m) (h : allN ks (n + 1) = false) : allN ks m = false := by
  induction m with
  | zero => omega
  | succ m ih =>
    by_cases e : n = m
    · subst e; exact h
    · have := ih (by omega)
      show (allN ks m && _) = false
      rw [this]
      rfl

set_option maxRecDepth 100000 in
set_option maxHeartbeats 2000000 in
theorem p_keysG {v : Value} {ks : List Pk} {w : World} (h : Kl w v ks) :
    Calls Tryz.prog 54 #[v] w fun e w' => e = .returned (.bool (keysOk ks)) ∧ Below w.heap.size w w' := by
  have BK := Lib.hid (p_bareKeys h)
  have hs := h
  obtain ⟨ao, cap, rfl, hf, _⟩ := h
  obtain ⟨N, hN⟩ : ∃ N, ks.length = N := ⟨_, rfl⟩
  rw [hN] at hf hs BK ⊢
  have HS := Lib.hid hs
  have HN := Lib.hid hN
  have EK : Hid (keysOk ks = (right (barep ks) && allN ks N)) := Lib.hid (by rw [← hN]; rfl)
  obtain ⟨K, hK⟩ : ∃ K, keysOk ks = K := ⟨_, rfl⟩
  rw [hK] at EK ⊢
  obtain ⟨B, hB⟩ : ∃ B, w.heap.size = B := ⟨_, rfl⟩
  have HB := Lib.hid hB
  by_cases o00 : 32 < N
  · have e : K = false := by rw [EK.out]; unfold right; rw [barep_length, HN.out]; simp; intro _ h; omega
    subst e
    have o0 : (32 : Int) < N := by omega
    clear BK hs hN hB hK
    go_enter Tryz.func54, Tryz.ntmps54
    go_wp2
    go_ret
    exact ⟨rfl, by rw [HB.out]; exact Below.refl _ _⟩
  have o0 : (N : Int) ≤ 32 := by omega
  clear hs hN hB hf hK
  go_enter Tryz.func54, Tryz.ntmps54
  go_wp2_with fail
  refine BK.out.mono ?_
  rintro e w1 ⟨vb, rfl, hob, hq1⟩
  have S1 := Lib.hid (hob.sl (by rw [barep_length, HN.out]; omega))
  have Q1 : Hid (Below B w w1) := Lib.hid (by rw [← HB.out]; exact hq1)
  have z1 : Hid (B ≤ w1.heap.size) := Lib.hid (by have := hq1.size; have := HB.out; omega)
  clear hob hq1 BK
  go_wp2_with fail
  refine (k_right S1.out).mono ?_
  obtain ⟨b, hb⟩ : ∃ b, right (barep ks) = b := ⟨_, rfl⟩
  rw [hb] at EK ⊢
  clear hb
  rintro e w2 ⟨rfl, hq2⟩
  have Q2 := Lib.hid (Q1.out.trans (hq2.mono z1.out))
  have z2 : Hid (B ≤ w2.heap.size) := Lib.hid (by have := hq2.size; have := z1.out; omega)
  clear hq2 S1 Q1 z1
  cases b
  · have e : K = false := by rw [EK.out]; rfl
    subst e
    go_wp2
    go_ret
    exact ⟨rfl, by rw [HB.out]; exact Q2.out⟩
  have EK : Hid (K = allN ks N) := Lib.hid (by rw [EK.out]; rfl)
  go_wp2_with fail
  go_loopw [4, 16] (fun _ i wr => ∃ n : Nat, n ≤ N ∧ i = .int .i64 n ∧ allN ks n = true ∧ Below B w wr) (fun _ i _ => N - (intOf i).toNat)
  case atStart => exact ⟨0, by omega, rfl, rfl, Q2.out⟩
  case round =>
    clear Q2 z2
    obtain ⟨n, hn, rfl, hst, hb⟩ := hrel
    have HST := Lib.hid hst
    have HBD := Lib.hid hb
    have sz : B ≤ wr.heap.size := by have := hb.size; have := HB.out; omega
    clear hst
    by_cases hlt : n < N
    · obtain ⟨g, o, e1, r0, l0⟩ := HS.out.row (by omega)
      have rr := r0.below hb (by have := r0.lt (by omega); have := HB.out; omega) (by have := HB.out; omega)
      subst e1
      have c0 := rr.c0 n (by omega)
      have c1 := rr.c1 n (by omega)
      have c2 := rr.c2 n (by omega)
      have c3 := rr.c3 n (by omega)
      have c4 := rr.c4 n (by omega)
      have c5 := rr.c5 n (by omega)
      have c6 := rr.c6 n (by omega)
      have c7 := rr.c7 n (by omega)
      have sx := rr.sl n (by omega)
      have s0 := rr.sl 0 (by omega)
      obtain ⟨f, hf⟩ : ∃ f, fits (pk ks 0).cl (pk ks 0).ps (pk ks n).cl (pk ks n).ps = f := ⟨_, rfl⟩
      obtain ⟨x, ex⟩ : ∃ x, pk ks n = x := ⟨_, rfl⟩
      obtain ⟨V, hV⟩ : ∃ V, wr.alloc (.cells (pkCells x) 43) = V := ⟨_, rfl⟩
      have bV : Below wr.heap.size wr V := by rw [← hV]; exact (Below.refl _ _).alloc (Nat.le_refl _) _
      have KX : Has V wr.heap.size (pkCells x) 43 := by rw [← hV]; exact has_new rfl
      have rV := rr.below bV (rr.lt (by omega)) (Nat.le_refl _)
      rw [ex] at c0 c1 c2 c3 c4 c5 c6 c7 sx hf
      obtain ⟨ok, hok⟩ : ∃ b, okP x.cl x.ps = b := ⟨_, rfl⟩
      obtain ⟨em, hem⟩ : ∃ b, decide (x.ps.length = 0) = b := ⟨_, rfl⟩
      have AN : Hid (allN ks (n + 1) = (!em && ok && f)) := Lib.hid (by unfold allN; rw [HST.out, ex, hem, hok, hf]; rfl)
      have r' := fun z => rV.later (by omega) z
      have EM : Hid (∀ z : Later V, Calls Tryz.prog 85 #[.agg #[.bool x.cl, x.v]] z.to fun e w'' => e = .returned (.bool em) ∧ Below z.to.heap.size z.to w'') := Lib.hid (fun z => by have := p_empty x.cl ((sx.below bV (Nat.le_refl _)).later z); rw [hem] at this; exact this)
      have RT : Hid (∀ z : Later V, Calls Tryz.prog 86 #[.agg #[.bool x.cl, x.v]] z.to fun e w'' => e = .returned (.bool ok) ∧ Below z.to.heap.size z.to w'') := Lib.hid (fun z => by have := p_right x.cl ((sx.below bV (Nat.le_refl _)).later z); rw [hok] at this; exact this)
      have FT : Hid (∀ z : Later V, Calls Tryz.prog 87 #[.agg #[.bool (pk ks 0).cl, (pk ks 0).v], .agg #[.bool x.cl, x.v]] z.to fun e w'' => e = .returned (.bool f) ∧ Below z.to.heap.size z.to w'') := Lib.hid (fun z => by have := p_fits (pk ks 0).cl x.cl ((s0.below bV (Nat.le_refl _)).later z) ((sx.below bV (Nat.le_refl _)).later z); rw [hf] at this; exact this)
      have k1 := Later.read KX 1 _ rfl
      have k2 := Later.read KX 2 _ rfl
      have b1 := fun z => (r' z).c1 0 (by omega)
      have b2 := fun z => (r' z).c2 0 (by omega)
      simp only [Nat.zero_mul, Nat.add_zero] at b1 b2
      have hx := sx.shape
      have h0 := s0.shape
      have HV := Lib.hid hV
      have o1 : (n : Int) < N := by omega
      have oz : (0 : Int) < N := by omega
      have oy : 0 < N := by omega
      have BV : Hid (Below B w V) := Lib.hid (HBD.out.trans (bV.mono sz))
      have zV : Hid (B ≤ V.heap.size) := Lib.hid (by have := bV.size; omega)
      obtain ⟨xt, xcl, xv, xps, xh, xa, xb, xcc, xd⟩ := x
      obtain ⟨xo, xn, xc, e1⟩ := hx
      obtain ⟨y, ey⟩ : ∃ x, pk ks 0 = x := ⟨_, rfl⟩
      rw [ey] at h0 FT b1 b2
      obtain ⟨yt, ycl, yv, yps, yh, ya, yb, ycc, yd⟩ := y
      obtain ⟨yo, yn, yc, e2⟩ := h0
      simp only at e1 e2
      subst e1 e2
      simp only at c0 c1 c2 c3 c4 c5 c6 c7
      clear r' rr rV r0 l0 hb sx s0 hok hem hf ex ey hV bV KX HS
      cases em
      case true =>
        have EF : Hid (K = false) := Lib.hid (by rw [EK.out]; exact allN_off (n := n) (by omega) (by rw [AN.out]; rfl))
        go_upto_region 6 with fail
        rw [HV.out]
        clear c0 c1 c2 c3 c4 c5 c6 c7
        refine wp_region_class (C := fun w' => ∃ z : Later V, w' = z.to) (by kernel_rfl) (by kernel_rfl) ⟨⟨_, below_drew (Below.refl _ _)⟩, rfl⟩ ?_
        repeat (go_big_quiet_step (first | (go_at_call 85; exact Later.calls (EM.out _)) | (go_at_call 86; exact Later.calls (RT.out _)) | (go_at_call 87; exact Later.calls (FT.out _))))
        refine wpQuiet_nil ?_
        rintro _ ⟨z, rfl⟩
        have R := Lib.hid (BV.out.trans (z.below.mono zV.out))
        go_wp2
        go_ret
        exact ⟨by rw [EF.out]; rfl, by rw [HB.out]; exact R.out⟩
      case false =>
       cases ok
       case false =>
        have EF : Hid (K = false) := Lib.hid (by rw [EK.out]; exact allN_off (n := n) (by omega) (by rw [AN.out]; rfl))
        go_upto_region 6 with fail
        rw [HV.out]
        clear c0 c1 c2 c3 c4 c5 c6 c7
        refine wp_region_class (C := fun w' => ∃ z : Later V, w' = z.to) (by kernel_rfl) (by kernel_rfl) ⟨⟨_, below_drew (Below.refl _ _)⟩, rfl⟩ ?_
        repeat (go_big_quiet_step (first | (go_at_call 85; exact Later.calls (EM.out _)) | (go_at_call 86; exact Later.calls (RT.out _)) | (go_at_call 87; exact Later.calls (FT.out _))))
        refine wpQuiet_nil ?_
        rintro _ ⟨z, rfl⟩
        have R := Lib.hid (BV.out.trans (z.below.mono zV.out))
        go_wp2
        go_ret
        exact ⟨by rw [EF.out]; rfl, by rw [HB.out]; exact R.out⟩
       case true =>
        cases f
        case false =>
          have EF : Hid (K = false) := Lib.hid (by rw [EK.out]; exact allN_off (n := n) (by omega) (by rw [AN.out]; rfl))
          go_upto_region 6 with fail
          rw [HV.out]
          clear c0 c1 c2 c3 c4 c5 c6 c7
          refine wp_region_class (C := fun w' => ∃ z : Later V, w' = z.to) (by kernel_rfl) (by kernel_rfl) ⟨⟨_, below_drew (Below.refl _ _)⟩, rfl⟩ ?_
          repeat (go_big_quiet_step (first | (go_at_call 85; exact Later.calls (EM.out _)) | (go_at_call 86; exact Later.calls (RT.out _)) | (go_at_call 87; exact Later.calls (FT.out _))))
          refine wpQuiet_nil ?_
          rintro _ ⟨z, rfl⟩
          have R := Lib.hid (BV.out.trans (z.below.mono zV.out))
          go_wp2
          go_ret
          exact ⟨by rw [EF.out]; rfl, by rw [HB.out]; exact R.out⟩
        case true =>
          go_upto_region 6 with fail
          rw [HV.out]
          clear c0 c1 c2 c3 c4 c5 c6 c7
          refine wp_region_class (C := fun w' => ∃ z : Later V, w' = z.to) (by kernel_rfl) (by kernel_rfl) ⟨⟨_, below_drew (Below.refl _ _)⟩, rfl⟩ ?_
          repeat (go_big_quiet_step (first | (go_at_call 85; exact Later.calls (EM.out _)) | (go_at_call 86; exact Later.calls (RT.out _)) | (go_at_call 87; exact Later.calls (FT.out _))))
          refine wpQuiet_nil ?_
          rintro _ ⟨z, rfl⟩
          have R := Lib.hid (BV.out.trans (z.below.mono zV.out))
          obtain ⟨Y, hY⟩ : ∃ Y, z.to = Y := ⟨_, rfl⟩
          rw [hY] at R ⊢
          clear hY k1 k2 b1 b2
          go_wp2
          go_roundw
          case rel => exact ⟨n + 1, by omega, by go_num, by rw [AN.out]; rfl, R.out⟩
          case measure => simp [intOf]; omega
    · obtain rfl : n = N := by omega
      have o1 : (n : Int) ≤ n := by omega
      clear hb
      go_wp2
      go_ret
      exact ⟨by rw [EK.out, HST.out]; rfl, by rw [HB.out]; exact HBD.out⟩

end Go.Proofs.YtglbfpjjnboeaaaGreat

namespace Go.Proofs.YtglbfpjjnboeaaaGreat
namespace M

def plc (p : Pt) : Pt := ⟨place p.x, place p.y⟩
theorem plc_plc (p : Pt) : plc (plc p) = plc p := by simp [plc, place_place]
/-- How long the way between two places is. -/
def longP (a b : Pt) : Int := hyp (b.x - a.x) (b.y - a.y)
def sidesN (c : Bool) (n : Nat) : Nat := if n < 2 then 0 else if c = true then n else n - 1
theorem sidesN_le (c : Bool) (n : Nat) : sidesN c n ≤ n := by unfold sidesN; split <;> (try split) <;> omega
theorem sidesN_few (c : Bool) {n : Nat} (h : n < 2) : sidesN c n = 0 := by unfold sidesN; rw [if_pos h]
theorem sidesN_closed {n : Nat} (h : ¬ n < 2) : sidesN true n = n := by unfold sidesN; rw [if_neg h, if_pos rfl]
theorem sidesN_open {n : Nat} (h : ¬ n < 2) : sidesN false n = n - 1 := by unfold sidesN; rw [if_neg h, if_neg (by simp)]
/-- The number of the place behind place i, of n. -/
def nxt (n i : Nat) : Nat := if i + 1 = n then 0 else i + 1
theorem nxt_last {n i : Nat} (h : i + 1 = n) : nxt n i = 0 := if_pos h
theorem nxt_in {n i : Nat} (h : ¬ i + 1 = n) : nxt n i = i + 1 := if_neg h
theorem nxt_lt {n i : Nat} (h : i < n) : nxt n i < n := by unfold nxt; split <;> omega
theorem nxt_mod {n i : Nat} (h : i < n) : Int.tmod ((i : Int) + 1) (n : Int) = (nxt n i : Nat) := by
  have e : Int.tmod ((i : Int) + 1) (n : Int) = (((i + 1) % n : Nat) : Int) := by
    rw [Int.tmod_eq_emod_of_nonneg (by omega)]
    simp
  rw [e]
  by_cases h1 : i + 1 = n
  · rw [nxt_last h1, h1, Nat.mod_self]
  · rw [nxt_in h1, Nat.mod_eq_of_lt (by omega)]
def sa (ps : List Pt) (i : Nat) : Pt := plc (pt ps i)
def sb (ps : List Pt) (i : Nat) : Pt := plc (pt ps (nxt ps.length i))
def sideL (ps : List Pt) (i : Nat) : Int := longP (sa ps i) (sb ps i)
theorem longP_lo (a b : Pt) : 0 ≤ longP a b := hyp_lo _ _
theorem longP_hi (a b : Pt) : longP a b ≤ 1518500249 := hyp_hi _ _
theorem sideL_lo (ps : List Pt) (i : Nat) : 0 ≤ sideL ps i := longP_lo _ _
theorem sideL_hi (ps : List Pt) (i : Nat) : sideL ps i ≤ 1518500249 := longP_hi _ _
/-- How long the first n sides are. -/
def lenN (ps : List Pt) : Nat → Int
  | 0 => 0
  | n + 1 => add (lenN ps n) (sideL ps n)
theorem lenN_zero (ps : List Pt) : lenN ps 0 = 0 := rfl
theorem lenN_step (ps : List Pt) (n : Nat) : add (lenN ps n) (sideL ps n) = lenN ps (n + 1) := rfl
theorem lenN_in (ps : List Pt) : ∀ n, 0 ≤ lenN ps n ∧ lenN ps n ≤ 1099511627776
  | 0 => by simp [lenN]
  | n + 1 => by
    have ih := lenN_in ps n
    have h0 := sideL_lo ps n
    have h1 := sideL_hi ps n
    rw [← lenN_step]
    unfold add
    rw [hold_in (a := lenN ps n) (by omega) (by omega), hold_in (a := sideL ps n) (by omega) (by omega)]
    refine ⟨?_, hold_hi _⟩
    have := hold_mono (a := 0) (b := lenN ps n + sideL ps n) (by omega)
    rwa [hold_in (a := 0) (by omega) (by omega)] at this
theorem add_near {s l : Int} (s0 : 0 ≤ s) (s1 : s ≤ 1099511627776) (l0 : 0 ≤ l) (l1 : l ≤ 1518500249) : add s l = hold (s + l) := by
  unfold add
  rw [hold_in (a := s) (by omega) (by omega), hold_in (a := l) (by omega) (by omega)]
/-- Below Great a held sum passes a number just where the sum does. -/
theorem add_past {s l f : Int} (s0 : 0 ≤ s) (s1 : s ≤ 1099511627776) (l0 : 0 ≤ l) (l1 : l ≤ 1518500249) (hf : f < 1099511627776) : f < add s l ↔ f < s + l := by
  rw [add_near s0 s1 l0 l1]
  by_cases h : s + l ≤ 1099511627776
  · rw [hold_in (by omega) h]
  · rw [hold_ge (by omega)]; omega
def lengthL (c : Bool) (ps : List Pt) : Int := lenN ps (sidesN c ps.length)
/-- The place that lies d of l on the way from a to b. -/
def onP (a b : Pt) (d l : Int) : Pt := if hold d ≤ 0 then plc a else if l ≤ hold d then plc b else ⟨mid (place a.x) (place b.x) (dv (hold d) l), mid (place a.y) (place b.y) (dv (hold d) l)⟩
theorem onP_a {a b : Pt} {d l : Int} (h : hold d ≤ 0) : onP a b d l = plc a := if_pos h
theorem onP_b {a b : Pt} {d l : Int} (h : ¬ hold d ≤ 0) (h2 : l ≤ hold d) : onP a b d l = plc b := by unfold onP; rw [if_neg h, if_pos h2]
theorem onP_mid {a b : Pt} {d l : Int} (h : ¬ hold d ≤ 0) (h2 : ¬ l ≤ hold d) : onP a b d l = ⟨mid (place a.x) (place b.x) (dv (hold d) l), mid (place a.y) (place b.y) (dv (hold d) l)⟩ := by unfold onP; rw [if_neg h, if_neg h2]
/-- Whether side i has a piece between f and t. -/
def hit (ps : List Pt) (f t : Int) (i : Nat) : Prop := 0 < sideL ps i ∧ f < lenN ps i + sideL ps i ∧ lenN ps i < t
instance (ps : List Pt) (f t : Int) (i : Nat) : Decidable (hit ps f t i) := by unfold hit; infer_instance
def fromP (ps : List Pt) (f : Int) (i : Nat) : Pt := onP (sa ps i) (sb ps i) (f - lenN ps i) (sideL ps i)
/-- What the first n sides have between f and t. -/
def cutN (ps : List Pt) (f t : Int) : Nat → List Pt
  | 0 => []
  | n + 1 => if hit ps f t n then (if (cutN ps f t n).length = 0 then [fromP ps f n] else cutN ps f t n) ++ [fromP ps t n] else cutN ps f t n
theorem cutN_zero (ps : List Pt) (f t : Int) : cutN ps f t 0 = [] := rfl
theorem cutN_off {ps : List Pt} {f t : Int} {n : Nat} (h : ¬ hit ps f t n) : cutN ps f t (n + 1) = cutN ps f t n := by rw [cutN, if_neg h]
theorem cutN_first {ps : List Pt} {f t : Int} {n : Nat} (h : hit ps f t n) (h0 : (cutN ps f t n).length = 0) : cutN ps f t (n + 1) = [fromP ps f n] ++ [fromP ps t n] := by rw [cutN, if_pos h, if_pos h0]
theorem cutN_more {ps : List Pt} {f t : Int} {n : Nat} (h : hit ps f t n) (h0 : ¬ (cutN ps f t n).length = 0) : cutN ps f t (n + 1) = cutN ps f t n ++ [fromP ps t n] := by rw [cutN, if_pos h, if_neg h0]
theorem cutN_length (ps : List Pt) (f t : Int) : ∀ n, (cutN ps f t n).length ≤ n + 1
  | 0 => by simp [cutN]
  | n + 1 => by
    have ih := cutN_length ps f t n
    by_cases h : hit ps f t n
    · by_cases h0 : (cutN ps f t n).length = 0
      · rw [cutN_first h h0]; simp
      · rw [cutN_more h h0]; simp; omega
    · rw [cutN_off h]; omega
def cutL (c : Bool) (ps : List Pt) (f t : Int) : List Pt := if hold t ≤ hold f then [] else cutN ps (hold f) (hold t) (sidesN c ps.length)
theorem cutL_no {c : Bool} {ps : List Pt} {f t : Int} (h : hold t ≤ hold f) : cutL c ps f t = [] := if_pos h
theorem cutL_yes {c : Bool} {ps : List Pt} {f t : Int} (h : ¬ hold t ≤ hold f) : cutL c ps f t = cutN ps (hold f) (hold t) (sidesN c ps.length) := if_neg h
theorem cutL_length (c : Bool) (ps : List Pt) (f t : Int) : (cutL c ps f t).length ≤ ps.length + 1 := by
  unfold cutL
  split
  · simp
  · have := cutN_length ps (hold f) (hold t) (sidesN c ps.length)
    have := sidesN_le c ps.length
    omega

end M
end Go.Proofs.YtglbfpjjnboeaaaGreat

namespace Go.Proofs.YtglbfpjjnboeaaaGreat
namespace M

/-- Number i of a list. -/
def nm (ds : List Int) (i : Nat) : Int := ds.getD i 0
theorem nm_cons (d : Int) (ds : List Int) (i : Nat) : nm (d :: ds) (i + 1) = nm ds i := by simp [nm]
theorem nm_zero (d : Int) (ds : List Int) : nm (d :: ds) 0 = d := by simp [nm]
theorem nm_left {ds : List Int} {d : Int} {i : Nat} (h : i < ds.length) : nm (ds ++ [d]) i = nm ds i := by unfold nm; simp [List.getD, List.getElem?_append_left h]
theorem nm_last (ds : List Int) (d : Int) : nm (ds ++ [d]) ds.length = d := by unfold nm; simp [List.getD]
/-- Whether a dash, or a gap, may be so long. -/
def okN (d : Int) : Prop := 65536 ≤ d ∧ d ≤ 67108864
instance (d : Int) : Decidable (okN d) := by unfold okN; infer_instance
def okA (ds : List Int) : Prop := ∀ i, i < ds.length → okN (nm ds i)
instance (ds : List Int) : Decidable (okA ds) := by unfold okA; infer_instance
/-- Right. -/
def okD (ds : List Int) : Bool := decide (ds.length ≤ 8 ∧ okA ds)
theorem okD_many {ds : List Int} (h : 8 < ds.length) : okD ds = false := by unfold okD; rw [decide_eq_false]; omega
theorem okD_bad {ds : List Int} {i : Nat} (hi : i < ds.length) (h : ¬ okN (nm ds i)) : okD ds = false := by
  unfold okD
  rw [decide_eq_false]
  exact fun e => h (e.2 i hi)
theorem okD_yes {ds : List Int} (h8 : ds.length ≤ 8) (h : ∀ i, i < ds.length → okN (nm ds i)) : okD ds = true := by
  unfold okD
  rw [decide_eq_true]
  exact ⟨h8, h⟩
theorem okD_all {ds : List Int} (h : ∀ i, i < ds.length → okN (nm ds i)) : okD ds = decide ((ds.length : Int) ≤ 8) := by
  by_cases h8 : ds.length ≤ 8
  · rw [okD_yes h8 h, decide_eq_true]; omega
  · rw [okD_many (by omega), decide_eq_false]; omega
theorem okD_few {ds : List Int} (h : okD ds = true) : ds.length ≤ 8 ∧ okA ds := by
  unfold okD at h
  simpa using h

/-- Number i, gone through round and round. -/
def tn (ds : List Int) (i : Nat) : Int := nm ds (i % ds.length)
/-- Where dash or gap k begins. -/
def mk (ds : List Int) : Nat → Int
  | 0 => 0
  | k + 1 => mk ds k + tn ds k
theorem mk_zero (ds : List Int) : mk ds 0 = 0 := rfl
theorem mk_step (ds : List Int) (k : Nat) : mk ds (k + 1) = mk ds k + tn ds k := rfl
theorem tn_in {ds : List Int} (h : okD ds = true) (h0 : 0 < ds.length) (i : Nat) : 65536 ≤ tn ds i ∧ tn ds i ≤ 67108864 := (okD_few h).2 _ (Nat.mod_lt _ h0)
theorem mk_in {ds : List Int} (h : okD ds = true) (h0 : 0 < ds.length) : ∀ k : Nat, 0 ≤ mk ds k ∧ mk ds k ≤ k * 67108864
  | 0 => by simp [mk]
  | k + 1 => by
    have ih := mk_in h h0 k
    have t := tn_in h h0 k
    rw [mk_step]
    omega
theorem mk_up {ds : List Int} (h : okD ds = true) (h0 : 0 < ds.length) {i : Nat} : ∀ {j : Nat}, i ≤ j → mk ds i ≤ mk ds j
  | 0, hij => by
    obtain rfl : i = 0 := by omega
    exact Int.le_refl _
  | j + 1, hij => by
    by_cases e : i = j + 1
    · rw [e]; exact Int.le_refl _
    · have ih := mk_up h h0 (i := i) (j := j) (by omega)
      have t := tn_in h h0 j
      rw [mk_step]
      omega
theorem add_mk {ds : List Int} (h : okD ds = true) (h0 : 0 < ds.length) {k : Nat} (hk : k ≤ 200) : add (mk ds k) (tn ds k) = mk ds (k + 1) := by
  have a := mk_in h h0 k
  have t := tn_in h h0 k
  unfold add
  rw [hold_in (a := mk ds k) (by omega) (by omega), hold_in (a := tn ds k) (by omega) (by omega), hold_in (by omega) (by omega), mk_step]
theorem tn_mod {ds : List Int} (i : Nat) : Int.tmod (i : Int) (ds.length : Int) = ((i % ds.length : Nat) : Int) := by
  rw [Int.tmod_eq_emod_of_nonneg (by omega)]
  simp
/-- Dash n. -/
def dashP (c : Bool) (ps : List Pt) (ds : List Int) (n : Nat) : List Pt := cutL c ps (mk ds (2 * n)) (mk ds (2 * n + 1))
theorem dashP_length (c : Bool) (ps : List Pt) (ds : List Int) (n : Nat) : (dashP c ps ds n).length ≤ ps.length + 1 := cutL_length _ _ _ _
/-- The first n dashes. -/
def dashN (c : Bool) (ps : List Pt) (ds : List Int) : Nat → List (Bool × List Pt)
  | 0 => []
  | n + 1 => if mk ds (2 * n) < lengthL c ps ∧ 2 ≤ (dashP c ps ds n).length then dashN c ps ds n ++ [(false, dashP c ps ds n)] else dashN c ps ds n
theorem dashN_zero (c : Bool) (ps : List Pt) (ds : List Int) : dashN c ps ds 0 = [] := rfl
theorem dashN_yes {c : Bool} {ps : List Pt} {ds : List Int} {n : Nat} (h : mk ds (2 * n) < lengthL c ps) (h2 : 2 ≤ (dashP c ps ds n).length) : dashN c ps ds (n + 1) = dashN c ps ds n ++ [(false, dashP c ps ds n)] := if_pos ⟨h, h2⟩
theorem dashN_no {c : Bool} {ps : List Pt} {ds : List Int} {n : Nat} (h2 : ¬ 2 ≤ (dashP c ps ds n).length) : dashN c ps ds (n + 1) = dashN c ps ds n := if_neg fun h => h2 h.2
theorem dashN_off {c : Bool} {ps : List Pt} {ds : List Int} {n : Nat} (h : ¬ mk ds (2 * n) < lengthL c ps) : dashN c ps ds (n + 1) = dashN c ps ds n := if_neg fun e => h e.1
theorem dashN_length (c : Bool) (ps : List Pt) (ds : List Int) : ∀ n, (dashN c ps ds n).length ≤ n
  | 0 => by simp [dashN]
  | n + 1 => by
    have ih := dashN_length c ps ds n
    rw [dashN]
    split
    · simp; omega
    · omega
/-- From the first dash on that would begin at the line's end or behind it nothing comes. -/
theorem dashN_end {c : Bool} {ps : List Pt} {ds : List Int} (h : okD ds = true) (h0 : 0 < ds.length) {n : Nat} (hn : lengthL c ps ≤ mk ds (2 * n)) : ∀ {m : Nat}, n ≤ m → dashN c ps ds m = dashN c ps ds n
  | 0, hm => by
    obtain rfl : n = 0 := by omega
    rfl
  | m + 1, hm => by
    by_cases e : n = m + 1
    · rw [e]
    · have ih := dashN_end h h0 hn (m := m) (by omega)
      have u := mk_up h h0 (i := 2 * n) (j := 2 * m) (by omega)
      rw [dashN_off (by omega), ih]
/-- Of. -/
def dashL (c : Bool) (ps : List Pt) (ds : List Int) : List (Bool × List Pt) := if ds.length = 0 ∨ okD ds = false then [(c, ps)] else dashN c ps ds 64
theorem dashL_none {c : Bool} {ps : List Pt} {ds : List Int} (h : ds.length = 0) : dashL c ps ds = [(c, ps)] := if_pos (Or.inl h)
theorem dashL_bad {c : Bool} {ps : List Pt} {ds : List Int} (h : okD ds = false) : dashL c ps ds = [(c, ps)] := if_pos (Or.inr h)
theorem dashL_some {c : Bool} {ps : List Pt} {ds : List Int} (h0 : 0 < ds.length) (h : okD ds = true) : dashL c ps ds = dashN c ps ds 64 := if_neg fun e => by rcases e with e | e; omega; rw [h] at e; cases e
theorem dashL_length (c : Bool) (ps : List Pt) (ds : List Int) : (dashL c ps ds).length ≤ 64 := by
  unfold dashL
  split
  · simp
  · exact dashN_length _ _ _ _

end M
end Go.Proofs.YtglbfpjjnboeaaaGreat

namespace Go.Proofs.YtglbfpjjnboeaaaGreat
open Go Go.RowKit
open M

theorem and_quad (c : Int) : bits .and .i64 c 262143 = c % 262144 := by
  show IntKind.i64.wrap ((BitVec.ofInt 64 c &&& BitVec.ofInt 64 (262143 : Int)).toNat : Int) = _
  have e0 : (BitVec.ofInt 64 (262143 : Int)).toNat = 262143 := by decide
  have e1 : (BitVec.ofInt 64 c).toNat = (c % 18446744073709551616).toNat := by rw [BitVec.toNat_ofInt]; rfl
  have e2 : ∀ n : Nat, n &&& 262143 = n % 262144 := fun n => Nat.and_two_pow_sub_one_eq_mod n 18
  rw [BitVec.toNat_and, e0, e1, e2, IntKind.wrap_i64]
  omega
/-- The slice's value v holds just these numbers. -/
def Isl (w : World) (v : Value) (ds : List Int) : Prop := ∃ ao cap, v = .slice ao ds.length cap ∧ ds.length ≤ 8796093022208 ∧ (0 < ds.length → ∃ g o, ao = some ⟨g, o, none⟩ ∧ ∀ i, i < ds.length → w.cell? ⟨g, o + i, none⟩ = some (.int .i64 (nm ds i)))
theorem Isl.few {w : World} {v : Value} {ds : List Int} (h : Isl w v ds) : ds.length ≤ 8796093022208 := by
  obtain ⟨_, _, _, h, _⟩ := h
  exact h
theorem Isl.slice {w : World} {v : Value} {ds : List Int} (h : Isl w v ds) : ∃ ao cap, v = .slice ao ds.length cap := by
  obtain ⟨ao, cap, h, _⟩ := h
  exact ⟨ao, cap, h⟩
theorem Isl.blocks {w w' : World} {v : Value} {ds : List Int} (h : Isl w v ds) (hb : ∀ k, k < w.heap.size → v.ownBlock = some k → w'.heap[k]? = w.heap[k]?) : Isl w' v ds := by
  obtain ⟨ao, cap, rfl, hf, hr⟩ := h
  refine ⟨ao, cap, rfl, hf, fun h0 => ?_⟩
  obtain ⟨g, o, rfl, hr'⟩ := hr h0
  exact ⟨g, o, rfl, fun i hi => (World.cell?_of_block (a := ⟨g, _, _⟩) (hb g (World.block_lt_of_cell? w _ (hr' 0 h0)) rfl)).trans (hr' i hi)⟩
theorem Isl.below {w w' : World} {v : Value} {ds : List Int} (h : Isl w v ds) (hb : Below w.heap.size w w') : Isl w' v ds := h.blocks fun k hk _ => hb.block k hk
theorem Isl.alloc {w : World} {v : Value} {ds : List Int} (h : Isl w v ds) (o : Obj) : Isl (w.alloc o) v ds := h.blocks fun k hk _ => (MapKept.heap_alloc w o).2 k hk
theorem Isl.at {w : World} {ao : Option Addr} {N cap : Nat} {ds : List Int} (h : Isl w (.slice ao N cap) ds) (h0 : 0 < N) : ds.length = N ∧ ∃ g o, ao = some ⟨g, o, none⟩ ∧ ∀ i, i < N → w.cell? ⟨g, o + i, none⟩ = some (.int .i64 (nm ds i)) := by
  obtain ⟨ao', cap', e, hf, hr⟩ := h
  simp only [Value.slice.injEq] at e
  obtain ⟨rfl, rfl, rfl⟩ := e
  exact ⟨rfl, hr h0⟩
theorem isl_nil (w : World) (ao : Option Addr) (cap : Nat) : Isl w (.slice ao 0 cap) [] := ⟨ao, cap, rfl, by simp, fun h => by simp at h⟩
theorem isl_lit {w : World} {g n c : Nat} {ds : List Int} {cs : Array Value} {t : TypeId} (hn : ds.length = n) (hf : n ≤ 8796093022208) (h : Has w g cs t) (hc : cs.toList = ds.map (Value.int .i64)) : Isl w (.slice (some ⟨g, 0, none⟩) n c) ds := by
  subst hn
  refine ⟨_, c, rfl, hf, fun _ => ⟨g, 0, rfl, fun i hi => ?_⟩⟩
  rw [Nat.zero_add]
  refine h.cell i _ ?_
  have : cs.toList[i]? = some (.int .i64 (nm ds i)) := by rw [hc]; simp [nm, List.getD, hi]
  simpa using this

theorem d_right {v : Value} {ds : List Int} {w : World} (h : Isl w v ds) : Calls Tryz.prog 57 #[v] w fun e w' => e = .returned (.bool (okD ds)) ∧ w = w' := by
  have hf := h.few
  obtain ⟨ao, cap, rfl⟩ := h.slice
  by_cases h8 : 8 < ds.length
  · rw [okD_many h8]
    have o1 : (8 : Int) < ds.length := by omega
    clear h
    go_enter Tryz.func57, Tryz.ntmps57
    go_wp2
    go_ret
    exact ⟨rfl, rfl⟩
  · have o1 : ¬ (8 : Int) < ds.length := by omega
    obtain ⟨N, hN⟩ : ∃ N, ds.length = N := ⟨_, rfl⟩
    have HN := Lib.hid hN
    rw [hN] at h hf h8 o1 ⊢
    have HS := Lib.hid h
    clear h hN
    go_enter Tryz.func57, Tryz.ntmps57
    go_wp2
    go_loop [10] (fun i => ∃ n : Nat, n ≤ N ∧ i = .int .i64 n ∧ ∀ j, j < n → okN (nm ds j)) (fun i => N - (intOf i).toNat)
    case atStart => exact ⟨0, by omega, rfl, fun j hj => by omega⟩
    case round =>
      obtain ⟨n, hn, rfl, ha⟩ := hrel
      have HA := Lib.hid ha
      clear ha
      by_cases hlt : n < N
      · obtain ⟨_, g, o, e1, hc⟩ := HS.out.at (by omega)
        subst e1
        have c0 := hc n hlt
        have o3 : (n : Int) < N := by omega
        have o4 : n < N := hlt
        obtain ⟨d, hd⟩ : ∃ d, nm ds n = d := ⟨_, rfl⟩
        rw [hd] at c0
        have HD := Lib.hid hd
        clear hd hc
        by_cases h1 : d < 65536
        · have E : Hid (okD ds = false) := Lib.hid (okD_bad (i := n) (by rw [HN.out]; exact hlt) (by rw [HD.out]; intro e; have := e.1; omega))
          go_wp2
          go_ret
          exact ⟨by rw [E.out]; rfl, rfl⟩
        · by_cases h2 : 67108864 < d
          · have E : Hid (okD ds = false) := Lib.hid (okD_bad (i := n) (by rw [HN.out]; exact hlt) (by rw [HD.out]; intro e; have := e.2; omega))
            go_wp2
            go_ret
            exact ⟨by rw [E.out]; rfl, rfl⟩
          · have E : Hid (okN d) := Lib.hid ⟨by omega, by omega⟩
            go_wp2
            go_round
            case rel => exact ⟨n + 1, by omega, by go_num, fun j hj => by
              by_cases e : j = n
              · rw [e, HD.out]; exact E.out
              · exact HA.out j (by omega)⟩
            case measure => simp [intOf]; omega
      · obtain rfl : n = N := by omega
        have E : Hid (okD ds = true) := Lib.hid (okD_yes (by rw [HN.out]; omega) (fun i hi => HA.out i (by rw [HN.out] at hi; exact hi)))
        have o3 : ¬ (n : Int) < n := by omega
        go_wp2
        go_ret
        exact ⟨by rw [E.out]; rfl, rfl⟩

theorem r9_dashes {v : Value} {ds : List Int} {w : World} (h : Isl w v ds) : Calls Tryz.prog 35 #[v] w fun e w' => e = .returned (.bool (okD ds)) ∧ w = w' := by
  have hf := h.few
  obtain ⟨ao, cap, rfl⟩ := h.slice
  obtain ⟨N, hN⟩ : ∃ N, ds.length = N := ⟨_, rfl⟩
  have HN := Lib.hid hN
  rw [hN] at h hf ⊢
  have HS := Lib.hid h
  clear h hN
  go_enter Tryz.func35, Tryz.ntmps35
  go_wp2
  go_loop [3] (fun i => ∃ n : Nat, n ≤ N ∧ i = .int .i64 n ∧ ∀ j, j < n → okN (nm ds j)) (fun i => N - (intOf i).toNat)
  case atStart => exact ⟨0, by omega, rfl, fun j hj => by omega⟩
  case round =>
    obtain ⟨n, hn, rfl, ha⟩ := hrel
    have HA := Lib.hid ha
    clear ha
    by_cases hlt : n < N
    · obtain ⟨_, g, o, e1, hc⟩ := HS.out.at (by omega)
      subst e1
      have c0 := hc n hlt
      have o3 : (n : Int) < N := by omega
      have o4 : n < N := hlt
      obtain ⟨d, hd⟩ : ∃ d, nm ds n = d := ⟨_, rfl⟩
      rw [hd] at c0
      have HD := Lib.hid hd
      clear hd hc
      by_cases h1 : d < 65536
      · have E : Hid (okD ds = false) := Lib.hid (okD_bad (i := n) (by rw [HN.out]; exact hlt) (by rw [HD.out]; intro e; have := e.1; omega))
        go_wp2
        go_ret
        exact ⟨by rw [E.out]; rfl, rfl⟩
      · by_cases h2 : 67108864 < d
        · have E : Hid (okD ds = false) := Lib.hid (okD_bad (i := n) (by rw [HN.out]; exact hlt) (by rw [HD.out]; intro e; have := e.2; omega))
          go_wp2
          go_ret
          exact ⟨by rw [E.out]; rfl, rfl⟩
        · have E : Hid (okN d) := Lib.hid ⟨by omega, by omega⟩
          go_wp2
          go_round
          case rel => exact ⟨n + 1, by omega, by go_num, fun j hj => by
            by_cases e : j = n
            · rw [e, HD.out]; exact E.out
            · exact HA.out j (by omega)⟩
          case measure => simp [intOf]; omega
    · obtain rfl : n = N := by omega
      have E : Hid (okD ds = decide ((n : Int) ≤ 8)) := Lib.hid (by rw [okD_all (fun i hi => HA.out i (by rw [HN.out] at hi; exact hi)), HN.out])
      have o3 : ¬ (n : Int) < n := by omega
      by_cases h8 : (n : Int) ≤ 8
      · go_wp2
        go_ret
        exact ⟨by rw [E.out]; simp [h8], rfl⟩
      · go_wp2
        go_ret
        exact ⟨by rw [E.out]; simp [h8], rfl⟩

end Go.Proofs.YtglbfpjjnboeaaaGreat

namespace Go.Proofs.YtglbfpjjnboeaaaGreat
namespace M

/-- A colour: its four parts. -/
structure Cr where
  r : Int
  g : Int
  b : Int
  q : Int
deriving DecidableEq
instance : Inhabited Cr := ⟨⟨0, 0, 0, 0⟩⟩
/-- Each part is a byte. -/
structure Cr.Ok (c : Cr) : Prop where
  r0 : 0 ≤ c.r
  r1 : c.r ≤ 255
  g0 : 0 ≤ c.g
  g1 : c.g ≤ 255
  b0 : 0 ≤ c.b
  b1 : c.b ≤ 255
  q0 : 0 ≤ c.q
  q1 : c.q ≤ 255
/-- One part, the share held already. -/
def mixh (a b p : Int) : Int := clamp (a + (b - a) * p / 65536) 0 255
def mix (x y : Cr) (p : Int) : Cr := ⟨mixh x.r y.r (hold p), mixh x.g y.g (hold p), mixh x.b y.b (hold p), mixh x.q y.q (hold p)⟩
def luma (c : Cr) : Int := (77 * c.r + 150 * c.g + 29 * c.b + 128) / 256
/-- A key of a colour: tick, colour, how, and the four numbers of its ease. -/
structure Ck where
  t : Int
  p : Cr
  h : Int
  a : Int
  b : Int
  c : Int
  d : Int
deriving DecidableEq
instance : Inhabited Ck := ⟨⟨0, default, 0, 0, 0, 0, 0⟩⟩
def ck (ks : List Ck) (i : Nat) : Ck := ks.getD i default
/-- The key without its colour. -/
def bare (k : Ck) : Ky := ⟨k.t, 0, k.h, k.a, k.b, k.c, k.d⟩
def bares (ks : List Ck) : List Ky := ks.map bare
def ctween (x y : Ck) (t : Int) : Cr := mix x.p y.p (goes x.h x.a x.b x.c x.d (prt x.t y.t t))
def atc (ks : List Ck) (t : Int) (no : Cr) : Cr :=
  if ks.length = 0 then no
  else if find (bares ks) t < 0 then (ck ks 0).p
  else if find (bares ks) t = (ks.length : Int) - 1 then (ck ks (find (bares ks) t).toNat).p
  else ctween (ck ks (find (bares ks) t).toNat) (ck ks ((find (bares ks) t).toNat + 1)) t

theorem clamp_byte (x : Int) : 0 ≤ clamp x 0 255 ∧ clamp x 0 255 ≤ 255 := by unfold clamp; split <;> (try split) <;> omega
theorem mixh_bd (a b p : Int) : 0 ≤ mixh a b p ∧ mixh a b p ≤ 255 := clamp_byte _
theorem mix_ok (x y : Cr) (p : Int) : (mix x y p).Ok :=
  ⟨(mixh_bd _ _ _).1, (mixh_bd _ _ _).2, (mixh_bd _ _ _).1, (mixh_bd _ _ _).2, (mixh_bd _ _ _).1, (mixh_bd _ _ _).2, (mixh_bd _ _ _).1, (mixh_bd _ _ _).2⟩
theorem clamp_self {a : Int} (h0 : 0 ≤ a) (h1 : a ≤ 255) : clamp a 0 255 = a := by unfold clamp; rw [if_neg (by omega), if_neg (by omega)]
theorem mixh_zero {a b : Int} (h0 : 0 ≤ a) (h1 : a ≤ 255) : mixh a b 0 = a := by
  unfold mixh; rw [Int.mul_zero, Int.zero_ediv, Int.add_zero]; exact clamp_self h0 h1
theorem mixh_one {a b : Int} (h0 : 0 ≤ b) (h1 : b ≤ 255) : mixh a b 65536 = b := by
  unfold mixh; rw [Int.mul_ediv_cancel _ (by decide), show a + (b - a) = b by omega]; exact clamp_self h0 h1
theorem mix_zero {x : Cr} (y : Cr) (h : x.Ok) : mix x y 0 = x := by
  unfold mix
  rw [show hold 0 = 0 from rfl, mixh_zero h.r0 h.r1, mixh_zero h.g0 h.g1, mixh_zero h.b0 h.b1, mixh_zero h.q0 h.q1]
theorem mix_one (x : Cr) {y : Cr} (h : y.Ok) : mix x y 65536 = y := by
  unfold mix
  rw [show hold 65536 = 65536 from rfl, mixh_one h.r0 h.r1, mixh_one h.g0 h.g1, mixh_one h.b0 h.b1, mixh_one h.q0 h.q1]
/-- What lies between two, by a share from 0 to One. -/
theorem way_in {d p : Int} (p0 : 0 ≤ p) (p1 : p ≤ 65536) : min 0 d ≤ d * p / 65536 ∧ d * p / 65536 ≤ max 0 d := by
  rcases Int.le_total 0 d with h | h
  · have a : d * p ≤ d * 65536 := Int.mul_le_mul_of_nonneg_left p1 h
    have b : 0 ≤ d * p := Int.mul_nonneg h p0
    omega
  · have a : (-d) * p ≤ (-d) * 65536 := Int.mul_le_mul_of_nonneg_left p1 (by omega)
    have b : 0 ≤ (-d) * p := Int.mul_nonneg (by omega) p0
    rw [Int.neg_mul] at a b
    omega
theorem mixh_in {a b p : Int} (a0 : 0 ≤ a) (a1 : a ≤ 255) (b0 : 0 ≤ b) (b1 : b ≤ 255) (p0 : 0 ≤ p) (p1 : p ≤ 65536) : min a b ≤ mixh a b p ∧ mixh a b p ≤ max a b := by
  obtain ⟨h1, h2⟩ := way_in (d := b - a) p0 p1
  unfold mixh
  rw [clamp_self (by omega) (by omega)]
  omega
theorem bares_length (ks : List Ck) : (bares ks).length = ks.length := by simp [bares]
theorem ky_bares (ks : List Ck) (i : Nat) : ky (bares ks) i = bare (ck ks i) := by
  unfold ky bares ck
  rw [List.getD_eq_getElem?_getD, List.getD_eq_getElem?_getD, List.getElem?_map]
  cases ks[i]? <;> rfl
theorem atc_cases (ks : List Ck) (t : Int) (no : Cr) (h : 0 < ks.length) : (find (bares ks) t = -1 ∧ atc ks t no = (ck ks 0).p) ∨
    (∃ i : Nat, find (bares ks) t = i ∧ i + 1 = ks.length ∧ atc ks t no = (ck ks i).p) ∨ (∃ i : Nat, find (bares ks) t = i ∧ i + 1 < ks.length ∧ atc ks t no = ctween (ck ks i) (ck ks (i + 1)) t) := by
  have hb := find_bd (bares ks) t
  rw [bares_length] at hb
  unfold atc
  rw [if_neg (by omega)]
  by_cases h0 : find (bares ks) t < 0
  · exact Or.inl ⟨by omega, if_pos h0⟩
  · rw [if_neg h0]
    obtain ⟨i, hi⟩ := Int.eq_ofNat_of_zero_le (show 0 ≤ find (bares ks) t by omega)
    rw [hi]
    by_cases h1 : i + 1 = ks.length
    · exact Or.inr (Or.inl ⟨i, rfl, h1, if_pos (by omega)⟩)
    · refine Or.inr (Or.inr ⟨i, rfl, by omega, ?_⟩)
      rw [if_neg (by omega)]
      rfl

end M
end Go.Proofs.YtglbfpjjnboeaaaGreat

namespace Go.Proofs.YtglbfpjjnboeaaaGreat
open Go.RowKit
open M

attribute [local go_sem] alloc_drewN setCell_drewN shape_drewN

/-- A colour's cells. -/
abbrev cCells (c : Cr) : Array Value := #[.int .u8 c.r, .int .u8 c.g, .int .u8 c.b, .int .u8 c.q]


theorem quiet2 {P : Program} {f : FuncId} {args : Array Value} {w : World} {m n : Nat} {v : Value} (h : Calls P f args (w.drewN (m + n)) fun e w' => e = .returned v ∧ w.drewN (m + n) = w') :
    Calls P f args (w.drewN (m + n)) fun e w'' => e = .returned v ∧ ∃ k, w'' = w.drewN (m + k) := h.mono fun _ _ ⟨a, b⟩ => ⟨a, n, b.symm⟩
/-- The first n parts mixed. -/
def upto (c : Cr) : Nat → Array Value
  | 0 => #[.int .u8 0, .int .u8 0, .int .u8 0, .int .u8 0]
  | 1 => #[.int .u8 c.r, .int .u8 0, .int .u8 0, .int .u8 0]
  | 2 => #[.int .u8 c.r, .int .u8 c.g, .int .u8 0, .int .u8 0]
  | 3 => #[.int .u8 c.r, .int .u8 c.g, .int .u8 c.b, .int .u8 0]
  | _ => #[.int .u8 c.r, .int .u8 c.g, .int .u8 c.b, .int .u8 c.q]
/-- Mix's world behind n rounds. -/
def mixing (w : World) (x y c : Cr) (n : Nat) : World :=
  (((w.alloc (.cells (cCells x) 27)).alloc (.cells (cCells y) 27)).alloc (.cells #[.int .u8 0, .int .u8 0, .int .u8 0, .int .u8 0] 27)).alloc (.cells (upto c n) 27)
theorem mixing_at (w : World) (x y c : Cr) (n : Nat) : mixing w x y c n = (((w.alloc (.cells (cCells x) 27)).alloc (.cells (cCells y) 27)).alloc (.cells #[.int .u8 0, .int .u8 0, .int .u8 0, .int .u8 0] 27)).alloc (.cells (upto c n) 27) := rfl
theorem mixed_below (w : World) (o1 o2 o3 o4 : Obj) (m : Nat) : Below w.heap.size w (((((w.alloc o1).alloc o2).alloc o3).alloc o4).drewN m) :=
  below_drewN (((((Below.refl _ _).alloc (Nat.le_refl _) _).alloc (by simp) _).alloc (by simp; omega) _).alloc (by simp; omega) _) _


end Go.Proofs.YtglbfpjjnboeaaaGreat

namespace Go.Proofs.YtglbfpjjnboeaaaGreat
open Go.RowKit
open M

/-- A colour key's cells. -/
abbrev kkCells (k : Ck) : Array Value := #[.int .i64 k.t, .int .u8 k.p.r, .int .u8 k.p.g, .int .u8 k.p.b, .int .u8 k.p.q, .int .i64 k.h, .int .i64 k.a, .int .i64 k.b, .int .i64 k.c, .int .i64 k.d]
/-- A row of colour keys lies in block g from cell o on. -/
structure Crow (w : World) (g o : Nat) (ks : List Ck) : Prop where
  few : ks.length ≤ 8796093022208
  ok : ∀ i, i < ks.length → (ck ks i).p.Ok
  c0 : ∀ i, i < ks.length → w.cell? ⟨g, o + i * 10, none⟩ = some (.int .i64 (ck ks i).t)
  c1 : ∀ i, i < ks.length → w.cell? ⟨g, o + i * 10 + 1, none⟩ = some (.int .u8 (ck ks i).p.r)
  c2 : ∀ i, i < ks.length → w.cell? ⟨g, o + i * 10 + 2, none⟩ = some (.int .u8 (ck ks i).p.g)
  c3 : ∀ i, i < ks.length → w.cell? ⟨g, o + i * 10 + 3, none⟩ = some (.int .u8 (ck ks i).p.b)
  c4 : ∀ i, i < ks.length → w.cell? ⟨g, o + i * 10 + 4, none⟩ = some (.int .u8 (ck ks i).p.q)
  c5 : ∀ i, i < ks.length → w.cell? ⟨g, o + i * 10 + 5, none⟩ = some (.int .i64 (ck ks i).h)
  c6 : ∀ i, i < ks.length → w.cell? ⟨g, o + i * 10 + 6, none⟩ = some (.int .i64 (ck ks i).a)
  c7 : ∀ i, i < ks.length → w.cell? ⟨g, o + i * 10 + 7, none⟩ = some (.int .i64 (ck ks i).b)
  c8 : ∀ i, i < ks.length → w.cell? ⟨g, o + i * 10 + 8, none⟩ = some (.int .i64 (ck ks i).c)
  c9 : ∀ i, i < ks.length → w.cell? ⟨g, o + i * 10 + 9, none⟩ = some (.int .i64 (ck ks i).d)
theorem Crow.below {w w' : World} {g o B : Nat} {ks : List Ck} (h : Crow w g o ks) (hb : Below B w w') (hg : g < B) : Crow w' g o ks :=
  ⟨h.few, h.ok, fun i hi => (hb.cell (p := ⟨g, _, _⟩) hg).trans (h.c0 i hi), fun i hi => (hb.cell (p := ⟨g, _, _⟩) hg).trans (h.c1 i hi), fun i hi => (hb.cell (p := ⟨g, _, _⟩) hg).trans (h.c2 i hi), fun i hi => (hb.cell (p := ⟨g, _, _⟩) hg).trans (h.c3 i hi), fun i hi => (hb.cell (p := ⟨g, _, _⟩) hg).trans (h.c4 i hi), fun i hi => (hb.cell (p := ⟨g, _, _⟩) hg).trans (h.c5 i hi), fun i hi => (hb.cell (p := ⟨g, _, _⟩) hg).trans (h.c6 i hi), fun i hi => (hb.cell (p := ⟨g, _, _⟩) hg).trans (h.c7 i hi), fun i hi => (hb.cell (p := ⟨g, _, _⟩) hg).trans (h.c8 i hi), fun i hi => (hb.cell (p := ⟨g, _, _⟩) hg).trans (h.c9 i hi)⟩
theorem Crow.lt {w : World} {g o : Nat} {ks : List Ck} (h : Crow w g o ks) (hn : 0 < ks.length) : g < w.heap.size := World.block_lt_of_cell? w _ (h.c0 0 hn)
theorem Crow.later {W : World} {g o : Nat} {ks : List Ck} (h : Crow W g o ks) (hn : 0 < ks.length) (z : Later W) : Crow z.to g o ks := h.below z.below (h.lt hn)
/-- The slice's value v holds just these keys. -/
def Csl (w : World) (v : Value) (ks : List Ck) : Prop := (ks = [] ∧ ∃ ao cap, v = .slice ao 0 cap) ∨ (0 < ks.length ∧ ∃ g o cap, v = .slice (some ⟨g, o, none⟩) ks.length cap ∧ Crow w g o ks)
theorem Csl.below {w w' : World} {v : Value} {ks : List Ck} (h : Csl w v ks) (hb : Below w.heap.size w w') : Csl w' v ks := by
  rcases h with h | ⟨h0, g, o, cap, hv, hr⟩
  · exact Or.inl h
  · exact Or.inr ⟨h0, g, o, cap, hv, hr.below hb (hr.lt h0)⟩
theorem Has.thaw {w : World} {g : Nat} {cs : Array Value} {t : TypeId} (h : Has w g cs t) (k : Nat) : w.frozen? ⟨g, k, none⟩ = false := by
  unfold Has at h
  simp [World.frozen?, h]

theorem four_below {B g : Nat} {w V : World} (h : Below B w V) (hg : B ≤ g) (a b c d : Value) :
    Below B w ((((V.setCell ⟨g, 0, none⟩ a).setCell ⟨g, 1, none⟩ b).setCell ⟨g, 2, none⟩ c).setCell ⟨g, 3, none⟩ d) := (((h.setCell hg _).setCell hg _).setCell hg _).setCell hg _


end Go.Proofs.YtglbfpjjnboeaaaGreat

namespace Go.Proofs.YtglbfpjjnboeaaaGreat
open Go.RowKit
open M

/-- The keys without their colours, of the call's own. -/
def Bared (w : World) (ks : List Ck) (e : Ending) (w' : World) : Prop := ∃ v, e = .returned v ∧ Own w' w.heap.size v (bares ks) ∧ Below w.heap.size w w'
theorem bare_put {w wr : World} {B g cap N n : Nat} {ks : List Ck} {qs : List Ky} {k : Ck} {o : Obj} (hk : ck ks n = k) (hsz : B ≤ wr.heap.size) (hq : qs.length = N) (hn : n < N) (hst : ∀ j, j < n → ky qs j = bare (ck ks j)) (hown : Own wr B (.slice (some ⟨g, 0, none⟩) N cap) qs) (hb : Below B w wr) :
    ∃ qs : List Ky, qs.length = N ∧ (∀ j, j < n + 1 → ky qs j = bare (ck ks j)) ∧
      Own ((((((((wr.alloc o).setCell ⟨g, n * 7, none⟩ (.int .i64 k.t)).setCell ⟨g, n * 7 + 1, none⟩ (.int .i64 0)).setCell ⟨g, n * 7 + 2, none⟩ (.int .i64 k.h)).setCell ⟨g, n * 7 + 3, none⟩ (.int .i64 k.a)).setCell ⟨g, n * 7 + 4, none⟩ (.int .i64 k.b)).setCell ⟨g, n * 7 + 5, none⟩ (.int .i64 k.c)).setCell ⟨g, n * 7 + 6, none⟩ (.int .i64 k.d)) B (.slice (some ⟨g, 0, none⟩) N cap) qs ∧
      Below B w ((((((((wr.alloc o).setCell ⟨g, n * 7, none⟩ (.int .i64 k.t)).setCell ⟨g, n * 7 + 1, none⟩ (.int .i64 0)).setCell ⟨g, n * 7 + 2, none⟩ (.int .i64 k.h)).setCell ⟨g, n * 7 + 3, none⟩ (.int .i64 k.a)).setCell ⟨g, n * 7 + 4, none⟩ (.int .i64 k.b)).setCell ⟨g, n * 7 + 5, none⟩ (.int .i64 k.c)).setCell ⟨g, n * 7 + 6, none⟩ (.int .i64 k.d)) := by
  have hg := hown.base.1
  have h0 : Own (wr.alloc o) B (.slice (some ⟨g, 0, none⟩) N cap) (qs.set n (ky qs n)) := by rw [set_self]; exact hown.alloc o
  have h1 := h0.put' hq hn 0 (n * 7) (by decide) rfl k.t
  have h2 := h1.put' hq hn 1 (n * 7 + 1) (by decide) rfl 0
  have h3 := h2.put' hq hn 2 (n * 7 + 2) (by decide) rfl k.h
  have h4 := h3.put' hq hn 3 (n * 7 + 3) (by decide) rfl k.a
  have h5 := h4.put' hq hn 4 (n * 7 + 4) (by decide) rfl k.b
  have h6 := h5.put' hq hn 5 (n * 7 + 5) (by decide) rfl k.c
  have h7 := h6.put' hq hn 6 (n * 7 + 6) (by decide) rfl k.d
  refine ⟨qs.set n (bare k), by simpa using hq, ?_, h7, (((((((hb.alloc hsz o).setCell hg _).setCell hg _).setCell hg _).setCell hg _).setCell hg _).setCell hg _).setCell hg _⟩
  intro j hj
  by_cases e : n = j
  · subst e; rw [ky_set_eq (by omega), hk]
  · rw [ky_set_ne e]; exact hst j (by omega)
theorem bared_all {ks : List Ck} {qs : List Ky} (hq : qs.length = ks.length) (h : ∀ j, j < ks.length → ky qs j = bare (ck ks j)) : qs = bares ks := by
  apply List.ext_getElem?
  intro j
  by_cases hj : j < ks.length
  · have := h j hj
    rw [← ky_bares] at this
    unfold ky at this
    rw [List.getD_eq_getElem?_getD, List.getD_eq_getElem?_getD, List.getElem?_eq_getElem (by omega), List.getElem?_eq_getElem (by rw [bares_length]; exact hj)] at this
    rw [List.getElem?_eq_getElem (by omega), List.getElem?_eq_getElem (by rw [bares_length]; exact hj)]
    exact congrArg some this
  · rw [List.getElem?_eq_none (by omega), List.getElem?_eq_none (by rw [bares_length]; omega)]

set_option maxHeartbeats 2000000 in
theorem h_bare1 (g o cap : Nat) (ks : List Ck) (w : World) (hr : Crow w g o ks) (hn : 0 < ks.length) (hf : ks.length ≤ 1000) :
    Calls Tryz.prog 89 #[.slice (some ⟨g, o, none⟩) ks.length cap] w (Bared w ks) := by
  obtain ⟨i0, hi, hz0, hz1, hz2⟩ := info_parts Tryz.infoKey
  have hg := hr.lt hn
  have HR := Lib.hid hr
  clear hr
  obtain ⟨B, hB⟩ : ∃ B, w.heap.size = B := ⟨_, rfl⟩
  rw [hB] at hg
  have HW := Lib.hid hB
  obtain ⟨N, hN⟩ : ∃ N, ks.length = N := ⟨_, rfl⟩
  rw [hN] at hn hf ⊢
  have HN := Lib.hid hN
  clear hN
  go_enter Tryz.func89, Tryz.ntmps89
  go_wp2_with (at_make; refine wpList_make_full _ rfl _ _ 24 rfl B 38 i0 (.agg #[.int .i64 0, .int .i64 0, .int .i64 0, .int .i64 0, .int .i64 0, .int .i64 0, .int .i64 0]) 7 Tryz.underlying24 hi hz0 hz1 _ _ _ _ N rfl rfl rfl rfl ?m1 ?m2 ?m3 ?_)
  case m1 => rw [hz2]; omega
  case m2 => unfold maxLen; omega
  case m3 => omega
  intro w3 hown3 hg3
  have hb3 : Below B w w3 := (Below.refl _ _).grown hg3 (by omega) (fun k hk => by cases hk)
  have ho3 : Own w3 B (.slice (some ⟨B, 0, none⟩) N N) (List.replicate N default) := by
    unfold Own
    rw [← made_keys, List.length_replicate, ← hB]
    rw [← hB] at hown3
    exact hown3
  have R0 : Hid (∃ qs : List Ky, qs.length = N ∧ (∀ j, j < 0 → ky qs j = bare (ck ks j)) ∧ Own w3 B (.slice (some ⟨B, 0, none⟩) N N) qs ∧ Below B w w3) := Lib.hid ⟨_, by simp, fun j hj => by omega, ho3, hb3⟩
  clear hown3 hg3 hb3 ho3 hB
  go_wp2
  go_loopw [4, 5, 11] (fun _ _ i wr => ∃ n : Nat, n ≤ N ∧ i = .int .i64 n ∧ ∃ qs : List Ky, qs.length = N ∧ (∀ j, j < n → ky qs j = bare (ck ks j)) ∧ Own wr B (.slice (some ⟨B, 0, none⟩) N N) qs ∧ Below B w wr) (fun _ _ i _ => N - (intOf i).toNat)
  case atStart => exact ⟨0, by omega, rfl, R0.out⟩
  case round =>
    clear R0
    obtain ⟨n, hn', rfl, qs, hq, hst, hown, hb⟩ := hrel
    by_cases hlt : n < N
    · have hr := HR.out.below hb hg
      have hln : n < ks.length := by have := HN.out; omega
      have c0 := hr.c0 n hln
      have c1 := hr.c1 n hln
      have c2 := hr.c2 n hln
      have c3 := hr.c3 n hln
      have c4 := hr.c4 n hln
      have c5 := hr.c5 n hln
      have c6 := hr.c6 n hln
      have c7 := hr.c7 n hln
      have c8 := hr.c8 n hln
      have c9 := hr.c9 n hln
      obtain ⟨k, hk⟩ : ∃ k, ck ks n = k := ⟨_, rfl⟩
      rw [hk] at c0 c1 c2 c3 c4 c5 c6 c7 c8 c9
      have hsz : B ≤ wr.heap.size := by have := hb.size; have := HW.out; omega
      have R := Lib.hid (bare_put (o := .cells (kkCells k) 45) hk hsz hq hlt hst hown hb)
      have ho2 : Own (wr.alloc (.cells (kkCells k) 45)) B (.slice (some ⟨B, 0, none⟩) N N) qs := hown.alloc _
      have hr2 := ho2.row (by omega) (by omega)
      have d0 := hr2.c0 n (by omega)
      have d1 := hr2.c1 n (by omega)
      have d2 := hr2.c2 n (by omega)
      have d3 := hr2.c3 n (by omega)
      have d4 := hr2.c4 n (by omega)
      have d5 := hr2.c5 n (by omega)
      have d6 := hr2.c6 n (by omega)
      rw [Nat.zero_add] at d0 d1 d2 d3 d4 d5 d6
      have fz := ho2.fro hq
      have o1 : (n : Int) < N := by omega
      clear hr hr2 ho2 hq hst hown hb hk
      obtain ⟨kt, ⟨kr, kg, kb, kq⟩, kh, ka, ke, kf, kd⟩ := k
      simp only at c0 c1 c2 c3 c4 c5 c6 c7 c8 c9
      go_wp2
      go_roundw
      case rel => exact ⟨n + 1, by omega, by go_num, R.out⟩
      case measure => simp [intOf]; omega
    · have en : n = N := by omega
      have eq := bared_all (ks := ks) (qs := qs) (by rw [HN.out]; exact hq) (fun j hj => hst j (by have := HN.out; omega))
      have R : Bared w ks (.returned (.slice (some ⟨B, 0, none⟩) N N)) wr := ⟨_, rfl, by rw [HW.out, ← eq]; exact hown, by rw [HW.out]; exact hb⟩
      have RH := Lib.hid R
      have o1 : (N : Int) ≤ n := by omega
      clear R hown hb hst hq eq en
      go_wp2
      go_ret
      exact RH.out
set_option maxHeartbeats 1000000 in
theorem h_bare0 (ao : Option Addr) (cap : Nat) (w : World) :
    Calls Tryz.prog 89 #[.slice ao 0 cap] w (Bared w []) := by
  obtain ⟨i0, hi, hz0, hz1, hz2⟩ := info_parts Tryz.infoKey
  go_enter Tryz.func89, Tryz.ntmps89
  go_wp2_with (at_make; refine wpList_make_full _ rfl _ _ 24 rfl w.heap.size 38 i0 (.agg #[.int .i64 0, .int .i64 0, .int .i64 0, .int .i64 0, .int .i64 0, .int .i64 0, .int .i64 0]) 7 Tryz.underlying24 hi hz0 hz1 _ _ _ _ 0 rfl rfl rfl rfl ?m1 ?m2 ?m3 ?_)
  case m1 => rw [hz2]; omega
  case m2 => unfold maxLen; omega
  case m3 => omega
  intro w3 hown3 hg3
  have e := made_keys 0
  rw [Nat.zero_mul] at e
  rw [e] at hown3
  have R : Bared w [] (.returned (.slice (some ⟨w.heap.size, 0, none⟩) 0 0)) w3 := ⟨_, rfl, hown3, (Below.refl _ _).grown hg3 (by omega) (fun k hk => by cases hk)⟩
  have RH := Lib.hid R
  clear R hown3 hg3 e
  go_wp2
  go_loop [4, 5, 11] (fun _ _ i => i = .int .i64 0) (fun _ _ _ => 0)
  case atStart => rfl
  case round =>
    subst hrel
    go_wp2
    go_ret
    exact RH.out
theorem h_bare {v : Value} {ks : List Ck} {w : World} (h : Csl w v ks) (hf : ks.length ≤ 1000) : Calls Tryz.prog 89 #[v] w (Bared w ks) := by
  rcases h with ⟨rfl, ao, cap, rfl⟩ | ⟨hn, g, o, cap, rfl, hr⟩
  · exact h_bare0 ao cap w
  · exact h_bare1 g o cap ks w hr hn hf
theorem Csl.len {w : World} {v : Value} {ks : List Ck} (h : Csl w v ks) : ks.length ≤ 8796093022208 ∧ ∃ ao cap, v = .slice ao ks.length cap := by
  rcases h with ⟨rfl, ao, cap, rfl⟩ | ⟨_, g, o, cap, rfl, hr⟩
  · exact ⟨by simp, ao, cap, rfl⟩
  · exact ⟨hr.few, _, cap, rfl⟩
theorem h_right {v : Value} {ks : List Ck} {w : World} (h : Csl w v ks) :
    Calls Tryz.prog 56 #[v] w fun e w' => e = .returned (.bool (right (bares ks))) ∧ Below w.heap.size w w' := by
  obtain ⟨hf, ao, cap, rfl⟩ := h.len
  by_cases h32 : ks.length ≤ 32
  · have HB := Lib.hid (h_bare h (by omega))
    have o1 : (ks.length : Int) ≤ 32 := by omega
    clear h
    go_enter Tryz.func56, Tryz.ntmps56
    go_wp2_with fail
    refine HB.out.mono ?_
    rintro e w1 ⟨v, rfl, hown, hb⟩
    have HS := Lib.hid (hown.sl (by rw [bares_length]; exact hf))
    have HB1 := Lib.hid hb
    clear hown hb HB
    go_wp2_with fail
    refine (k_right HS.out).mono ?_
    rintro e w2 ⟨rfl, hq⟩
    have HB2 := Lib.hid (HB1.out.trans (hq.mono HB1.out.size))
    clear hq HS HB1
    go_wp2
    go_ret
    exact ⟨rfl, HB2.out⟩
  · have e : right (bares ks) = false := by unfold right; rw [bares_length]; simp [h32]
    rw [e]
    have o1 : (32 : Int) < ks.length := by omega
    clear h e
    go_enter Tryz.func56, Tryz.ntmps56
    go_wp2
    go_ret
    exact ⟨rfl, Below.refl _ _⟩

end Go.Proofs.YtglbfpjjnboeaaaGreat

namespace Go.Proofs.YtglbfpjjnboeaaaGreat
open Go Go.RowKit
open M

structure Shp where
  form : Int
  n : Int
  W : List Ky
  vW : Value
  H : List Ky
  vH : Value
  P : List Pk
  vP : Value
  fill : Bool
  rule : Int
  kind : Int
  a : Cr
  b : Cr
  p : Pt
  q : Pt
  r : Int
  C : List Ck
  vC : Value
  stroke : Bool
  Wd : List Ky
  vWd : Value
  line : Cr
  cap : Int
  D : List Int
  vD : Value
  F : List Ky
  vF : Value
  T : List Ky
  vT : Value
/-- The cells of its paint. -/
abbrev paC (k : Int) (a b : Cr) (p q : Pt) (r : Int) : Array Value := #[.int .i64 k, .int .u8 a.r, .int .u8 a.g, .int .u8 a.b, .int .u8 a.q, .int .u8 b.r, .int .u8 b.g, .int .u8 b.b, .int .u8 b.q, .int .i64 p.x, .int .i64 p.y, .int .i64 q.x, .int .i64 q.y, .int .i64 r]
/-- Its cells. -/
abbrev shC (s : Shp) : Array Value := #[.int .i64 s.form, .int .i64 s.n, s.vW, s.vH, s.vP, .bool s.fill, .int .i64 s.rule,
  .int .i64 s.kind, .int .u8 s.a.r, .int .u8 s.a.g, .int .u8 s.a.b, .int .u8 s.a.q, .int .u8 s.b.r, .int .u8 s.b.g, .int .u8 s.b.b, .int .u8 s.b.q, .int .i64 s.p.x, .int .i64 s.p.y, .int .i64 s.q.x, .int .i64 s.q.y, .int .i64 s.r,
  s.vC, .bool s.stroke, s.vWd, .int .u8 s.line.r, .int .u8 s.line.g, .int .u8 s.line.b, .int .u8 s.line.q, .int .i64 s.cap, s.vD, s.vF, s.vT]
structure ShIn (w : World) (s : Shp) : Prop where
  W : Sl w s.vW s.W
  H : Sl w s.vH s.H
  P : Kl w s.vP s.P
  C : Csl w s.vC s.C
  Wd : Sl w s.vWd s.Wd
  D : Isl w s.vD s.D
  F : Sl w s.vF s.F
  T : Sl w s.vT s.T
theorem ShIn.below {w w' : World} {s : Shp} (h : ShIn w s) (hb : Below w.heap.size w w') : ShIn w' s :=
  ⟨h.W.below hb, h.H.below hb, h.P.below hb, h.C.below hb, h.Wd.below hb, h.D.below hb, h.F.below hb, h.T.below hb⟩
def formOk (s : Shp) : Bool :=
  if s.form = 0 ∨ s.form = 1 then decide (s.n = 0) && decide (s.P.length = 0)
  else if s.form = 2 then decide (2 ≤ s.n) && decide (s.n ≤ 16) && decide (s.P.length = 0)
  else if s.form = 3 then decide (s.n = 0) && decide (s.W.length = 0) && decide (s.H.length = 0)
  else false
def lineOk (s : Shp) : Bool := right s.W && right s.H && keysOk s.P
def paintOk (s : Shp) : Bool := decide (s.kind = 0 ∨ s.kind = 1 ∨ s.kind = 2) && (nearN s.p.x && nearN s.p.y && nearN s.q.x && nearN s.q.y && nearN s.r)
def fillOk (s : Shp) : Bool := decide (s.rule = 0 ∨ s.rule = 1) && paintOk s && right (bares s.C)
def drawOk (s : Shp) : Bool := right s.Wd && right s.F && right s.T && decide (s.cap = 0 ∨ s.cap = 1) && okD s.D
def okS (s : Shp) : Bool := formOk s && lineOk s && fillOk s && drawOk s
/-- Its path at the tick t: whether it is closed, its places. -/
def shCl (s : Shp) (t : Int) : Bool := if s.form = 0 ∨ s.form = 1 ∨ s.form = 2 then true else if s.form = 3 then atcl s.P t else false
def shAt (s : Shp) (t : Int) : List Pt :=
  if s.form = 0 then rectL (atk s.W t 0) (atk s.H t 0) else if s.form = 1 then ovalL (atk s.W t 0) (atk s.H t 0)
  else if s.form = 2 then starL s.n (atk s.W t 0) (atk s.H t 0) else if s.form = 3 then atps s.P t else []
/-- What a list of keys, of paths or of numbers holds can be told by its length alone. -/
theorem Sl.len {w : World} {v : Value} {ks : List Ky} (h : Sl w v ks) : ks.length ≤ 8796093022208 ∧ ∃ ao cap, v = .slice ao ks.length cap := by
  rcases h with ⟨rfl, ao, cap, rfl⟩ | ⟨_, g, o, cap, rfl, hr⟩
  · exact ⟨by simp, ao, cap, rfl⟩
  · exact ⟨hr.few, _, cap, rfl⟩
theorem Kl.len {w : World} {v : Value} {ks : List Pk} (h : Kl w v ks) : ks.length ≤ 100 ∧ ∃ ao cap, v = .slice ao ks.length cap := by
  obtain ⟨ao, cap, rfl, hf, _⟩ := h
  exact ⟨hf, ao, cap, rfl⟩

end Go.Proofs.YtglbfpjjnboeaaaGreat

namespace Go.Proofs.YtglbfpjjnboeaaaGreat
open Go Go.RowKit
open M

theorem int0 (n : Nat) : ((n : Int) == 0) = decide (n = 0) := by by_cases h : n = 0 <;> simp [h]

set_option maxRecDepth 100000 in
set_option maxHeartbeats 4000000 in
theorem sh_form {w : World} {s : Shp} (h : ShIn w s) : Calls Tryz.prog 27 #[.agg (shC s)] w fun e w' => e = .returned (.bool (formOk s)) ∧ Below w.heap.size w w' := by
  obtain ⟨lW, aW, cW, eW⟩ := h.W.len
  obtain ⟨lH, aH, cH, eH⟩ := h.H.len
  obtain ⟨lP, aP, cP, eP⟩ := h.P.len
  clear h
  obtain ⟨form, n, W, vW, H, vH, P, vP, fill, rule, kind, a, b, p, q, r, C, vC, stroke, Wd, vWd, line, cap, D, vD, F, vF, T, vT⟩ := s
  simp only at eW eH eP lW lH lP
  subst eW eH eP
  obtain ⟨K, hK⟩ : ∃ K, formOk ⟨form, n, W, .slice aW W.length cW, H, .slice aH H.length cH, P, .slice aP P.length cP, fill, rule, kind, a, b, p, q, r, C, vC, stroke, Wd, vWd, line, cap, D, vD, F, vF, T, vT⟩ = K := ⟨_, rfl⟩
  have EK := Lib.hid hK
  rw [hK]
  clear hK
  go_enter Tryz.func27, Tryz.ntmps27
  go_wp2_with fail
  all_goals
    go_ret
    refine ⟨?_, (Below.refl _ _).alloc (Nat.le_refl _) _⟩
    rw [← EK.out]
    clear EK
    unfold formOk
    have zP : ((P.length : Int) == 0) = decide (P.length = 0) := int0 _
    have zW : ((W.length : Int) == 0) = decide (W.length = 0) := int0 _
    have zH : ((H.length : Int) == 0) = decide (H.length = 0) := int0 _
    first
      | (simp_all; done)
      | (simp_all; omega; done)
      | (rw [zP]; simp_all; done)
      | (rw [zH]; simp_all; done)
      | (rw [zW]; simp_all; done)

/-- A shape that a call has by value lies in a block of its own. -/
theorem ShIn.start {w W : World} {B : Nat} {s : Shp} (h : ShIn w s) (hB : w.heap.size = B) (hW : w.alloc (.cells (shC s) 34) = W) : ShIn W s ∧ Has W B (shC s) 34 ∧ Below B w W := by
  have hb : Below w.heap.size w W := by rw [← hW]; exact (Below.refl _ _).alloc (Nat.le_refl _) _
  exact ⟨h.below hb, by rw [← hW]; exact has_new hB, by rw [← hB]; exact hb⟩

set_option maxRecDepth 100000 in
set_option maxHeartbeats 4000000 in
theorem sh_outline {w : World} {s : Shp} (h : ShIn w s) : Calls Tryz.prog 28 #[.agg (shC s)] w fun e w' => e = .returned (.bool (lineOk s)) ∧ Below w.heap.size w w' := by
  obtain ⟨B, hB⟩ : ∃ B, w.heap.size = B := ⟨_, rfl⟩
  obtain ⟨W, hW⟩ : ∃ W, w.alloc (.cells (shC s) 34) = W := ⟨_, rfl⟩
  obtain ⟨hi, hk, hb⟩ := h.start hB hW
  have HBB := Lib.hid hB
  have HW := Lib.hid hW
  obtain ⟨x, hx⟩ : ∃ x, right s.W = x := ⟨_, rfl⟩
  obtain ⟨y, hy⟩ : ∃ x, right s.H = x := ⟨_, rfl⟩
  obtain ⟨z, hz⟩ : ∃ x, keysOk s.P = x := ⟨_, rfl⟩
  have C1 : Hid (∀ w', Below W.heap.size W w' → Calls Tryz.prog 53 #[s.vW] w' fun e w'' => e = .returned (.bool x) ∧ Below w'.heap.size w' w'') := Lib.hid (fun w' h' => by rw [← hx]; exact k_right (hi.below h').W)
  have C2 : Hid (∀ w', Below W.heap.size W w' → Calls Tryz.prog 53 #[s.vH] w' fun e w'' => e = .returned (.bool y) ∧ Below w'.heap.size w' w'') := Lib.hid (fun w' h' => by rw [← hy]; exact k_right (hi.below h').H)
  have C3 : Hid (∀ w', Below W.heap.size W w' → Calls Tryz.prog 54 #[s.vP] w' fun e w'' => e = .returned (.bool z) ∧ Below w'.heap.size w' w'') := Lib.hid (fun w' h' => by rw [← hz]; exact p_keysG (hi.below h').P)
  have E : lineOk s = (x && y && z) := by unfold lineOk; rw [hx, hy, hz]
  rw [E]
  clear E
  have F : ∀ w', Below W.heap.size W w' → ∀ j u, (shC s)[j]? = some u → w'.cell? ⟨B, j, none⟩ = some u := fun w' h' j u hu => (hk.below h' hk.lt).cell j u hu
  have HF := Lib.hid F
  have R0 : Hid (Below W.heap.size W W) := Lib.hid (Below.refl _ _)
  have hFin : ∀ w', Below W.heap.size W w' → Below w.heap.size w w' := fun w' h' => by rw [hB]; exact hb.trans (h'.mono (by have := hk.lt; omega))
  have FIN := Lib.hid hFin
  clear hi hk hb hW hx hy hz F h hFin
  go_enter Tryz.func28, Tryz.ntmps28
  have f2 := HF.out W R0.out 2 _ rfl
  go_wp2_with fail
  rw [HW.out]
  clear hB
  refine (C1.out _ R0.out).mono ?_
  rintro e w1 ⟨rfl, q1⟩
  have R1 := Lib.hid (R0.out.trans (q1.mono R0.out.size))
  clear q1 f2
  cases x
  · go_wp2
    go_ret
    exact ⟨rfl, FIN.out _ R1.out⟩
  have f3 := HF.out w1 R1.out 3 _ rfl
  go_wp2_with fail
  refine (C2.out _ R1.out).mono ?_
  rintro e w2 ⟨rfl, q2⟩
  have R2 := Lib.hid (R1.out.trans (q2.mono R1.out.size))
  clear q2 f3
  cases y
  · go_wp2
    go_ret
    exact ⟨rfl, FIN.out _ R2.out⟩
  have f4 := HF.out w2 R2.out 4 _ rfl
  go_wp2_with fail
  refine (C3.out _ R2.out).mono ?_
  rintro e w3 ⟨rfl, q3⟩
  have R3 := Lib.hid (R2.out.trans (q3.mono R2.out.size))
  clear q3 f4
  go_wp2
  go_ret
  exact ⟨by simp, FIN.out _ R3.out⟩

theorem sh_near (a : Int) (w : World) : Calls Tryz.prog 88 #[.int .i64 a] w fun e w' => e = .returned (.bool (nearN a)) ∧ Below w.heap.size w w' := by
  obtain ⟨K, hK⟩ : ∃ K, nearN a = K := ⟨_, rfl⟩
  have EK := Lib.hid hK
  rw [hK]
  clear hK
  go_enter Tryz.func88, Tryz.ntmps88
  go_wp2
  all_goals
    go_ret
    refine ⟨?_, Below.refl _ _⟩
    rw [← EK.out]
    clear EK
    unfold nearN
    first | (simp_all; done) | (simp_all; omega; done)
set_option maxRecDepth 100000 in
set_option maxHeartbeats 4000000 in
theorem sh_paint (k : Int) (a b : Cr) (p q : Pt) (r : Int) (w : World) : Calls Tryz.prog 55 #[.agg (paC k a b p q r)] w fun e w' => e = .returned (.bool (decide (k = 0 ∨ k = 1 ∨ k = 2) && (nearN p.x && nearN p.y && nearN q.x && nearN q.y && nearN r))) ∧ Below w.heap.size w w' := by
  obtain ⟨px, py⟩ := p
  obtain ⟨qx, qy⟩ := q
  simp only
  obtain ⟨n0, h0⟩ : ∃ x, nearN px = x := ⟨_, rfl⟩
  have N0 : Hid (∀ w, Calls Tryz.prog 88 #[.int .i64 px] w fun e w' => e = .returned (.bool n0) ∧ Below w.heap.size w w') := Lib.hid (fun w => by rw [← h0]; exact sh_near _ w)
  obtain ⟨n1, h1⟩ : ∃ x, nearN py = x := ⟨_, rfl⟩
  have N1 : Hid (∀ w, Calls Tryz.prog 88 #[.int .i64 py] w fun e w' => e = .returned (.bool n1) ∧ Below w.heap.size w w') := Lib.hid (fun w => by rw [← h1]; exact sh_near _ w)
  obtain ⟨n2, h2⟩ : ∃ x, nearN qx = x := ⟨_, rfl⟩
  have N2 : Hid (∀ w, Calls Tryz.prog 88 #[.int .i64 qx] w fun e w' => e = .returned (.bool n2) ∧ Below w.heap.size w w') := Lib.hid (fun w => by rw [← h2]; exact sh_near _ w)
  obtain ⟨n3, h3⟩ : ∃ x, nearN qy = x := ⟨_, rfl⟩
  have N3 : Hid (∀ w, Calls Tryz.prog 88 #[.int .i64 qy] w fun e w' => e = .returned (.bool n3) ∧ Below w.heap.size w w') := Lib.hid (fun w => by rw [← h3]; exact sh_near _ w)
  obtain ⟨n4, h4⟩ : ∃ x, nearN r = x := ⟨_, rfl⟩
  have N4 : Hid (∀ w, Calls Tryz.prog 88 #[.int .i64 r] w fun e w' => e = .returned (.bool n4) ∧ Below w.heap.size w w') := Lib.hid (fun w => by rw [← h4]; exact sh_near _ w)
  rw [h0, h1, h2, h3, h4]
  clear h0 h1 h2 h3 h4
  obtain ⟨B, hB⟩ : ∃ B, w.heap.size = B := ⟨_, rfl⟩
  by_cases hk : k = 0 ∨ k = 1 ∨ k = 2
  · rw [decide_eq_true hk]
    obtain ⟨W, hW⟩ : ∃ W, w.alloc (.cells (paC k a b ⟨px, py⟩ ⟨qx, qy⟩ r) 31) = W := ⟨_, rfl⟩
    have hkk : Has W B (paC k a b ⟨px, py⟩ ⟨qx, qy⟩ r) 31 := by rw [← hW]; exact has_new hB
    have hb : Below B w W := by rw [← hW]; exact (Below.refl _ _).alloc (by omega) _
    have HF := Lib.hid (show ∀ w', Below W.heap.size W w' → ∀ j u, (paC k a b ⟨px, py⟩ ⟨qx, qy⟩ r)[j]? = some u → w'.cell? ⟨B, j, none⟩ = some u from fun w' h' j u hu => (hkk.below h' hkk.lt).cell j u hu)
    have R0 : Hid (Below W.heap.size W W) := Lib.hid (Below.refl _ _)
    have FIN := Lib.hid (show ∀ w', Below W.heap.size W w' → Below w.heap.size w w' from fun w' h' => by rw [hB]; exact hb.trans (h'.mono (by have := hkk.lt; omega)))
    have HW := Lib.hid hW
    clear hkk hb hW
    rcases hk with rfl | rfl | rfl
    all_goals
      go_enter Tryz.func55, Tryz.ntmps55
      go_wp2_with fail
      rw [HW.out]
      clear hB
      refine (N0.out _).mono ?_
      rintro e w1 ⟨rfl, q1⟩
      have R1 := Lib.hid (R0.out.trans (q1.mono R0.out.size))
      clear q1
      cases n0
      · go_wp2
        go_ret
        exact ⟨rfl, FIN.out _ R1.out⟩
      have g10 := HF.out w1 R1.out 10 _ rfl
      go_wp2_with fail
      refine (N1.out _).mono ?_
      rintro e w2 ⟨rfl, q2⟩
      have R2 := Lib.hid (R1.out.trans (q2.mono R1.out.size))
      clear q2
      cases n1
      · go_wp2
        go_ret
        exact ⟨rfl, FIN.out _ R2.out⟩
      have g11 := HF.out w2 R2.out 11 _ rfl
      go_wp2_with fail
      refine (N2.out _).mono ?_
      rintro e w3 ⟨rfl, q3⟩
      have R3 := Lib.hid (R2.out.trans (q3.mono R2.out.size))
      clear q3
      cases n2
      · go_wp2
        go_ret
        exact ⟨rfl, FIN.out _ R3.out⟩
      have g12 := HF.out w3 R3.out 12 _ rfl
      go_wp2_with fail
      refine (N3.out _).mono ?_
      rintro e w4 ⟨rfl, q4⟩
      have R4 := Lib.hid (R3.out.trans (q4.mono R3.out.size))
      clear q4
      cases n3
      · go_wp2
        go_ret
        exact ⟨rfl, FIN.out _ R4.out⟩
      have g13 := HF.out w4 R4.out 13 _ rfl
      go_wp2_with fail
      refine (N4.out _).mono ?_
      rintro e w5 ⟨rfl, q5⟩
      have R5 := Lib.hid (R4.out.trans (q5.mono R4.out.size))
      clear q5
      go_wp2
      go_ret
      exact ⟨by simp, FIN.out _ R5.out⟩
  · rw [decide_eq_false hk]
    have h0 : (k == 0) = false := by simp; omega
    have h1 : (k == 1) = false := by simp; omega
    have h2 : (k == 2) = false := by simp; omega
    clear hB
    go_enter Tryz.func55, Tryz.ntmps55
    go_wp2
    go_ret
    exact ⟨rfl, (Below.refl _ _).alloc (Nat.le_refl _) _⟩

set_option maxRecDepth 100000 in
set_option maxHeartbeats 4000000 in
theorem sh_fill {w : World} {s : Shp} (h : ShIn w s) : Calls Tryz.prog 29 #[.agg (shC s)] w fun e w' => e = .returned (.bool (fillOk s)) ∧ Below w.heap.size w w' := by
  obtain ⟨B, hB⟩ : ∃ B, w.heap.size = B := ⟨_, rfl⟩
  obtain ⟨W, hW⟩ : ∃ W, w.alloc (.cells (shC s) 34) = W := ⟨_, rfl⟩
  obtain ⟨hi, hk, hb⟩ := h.start hB hW
  have HBB := Lib.hid hB
  have HW := Lib.hid hW
  obtain ⟨y, hy⟩ : ∃ x, paintOk s = x := ⟨_, rfl⟩
  obtain ⟨z, hz⟩ : ∃ x, right (bares s.C) = x := ⟨_, rfl⟩
  have C1 : Hid (∀ w', Below W.heap.size W w' → Calls Tryz.prog 55 #[.agg (paC s.kind s.a s.b s.p s.q s.r)] w' fun e w'' => e = .returned (.bool y) ∧ Below w'.heap.size w' w'') := Lib.hid (fun w' h' => by rw [← hy]; exact sh_paint s.kind s.a s.b s.p s.q s.r w')
  have C2 : Hid (∀ w', Below W.heap.size W w' → Calls Tryz.prog 56 #[s.vC] w' fun e w'' => e = .returned (.bool z) ∧ Below w'.heap.size w' w'') := Lib.hid (fun w' h' => by rw [← hz]; exact h_right (hi.below h').C)
  have E : fillOk s = (decide (s.rule = 0 ∨ s.rule = 1) && y && z) := by unfold fillOk; rw [hy, hz]
  rw [E]
  clear E
  have F : ∀ w', Below W.heap.size W w' → ∀ j u, (shC s)[j]? = some u → w'.cell? ⟨B, j, none⟩ = some u := fun w' h' j u hu => (hk.below h' hk.lt).cell j u hu
  have HF := Lib.hid F
  have R0 : Hid (Below W.heap.size W W) := Lib.hid (Below.refl _ _)
  have hFin : ∀ w', Below W.heap.size W w' → Below w.heap.size w w' := fun w' h' => by rw [hB]; exact hb.trans (h'.mono (by have := hk.lt; omega))
  have FIN := Lib.hid hFin
  clear hi hk hb hW hy hz F h hFin
  by_cases hr : s.rule = 0 ∨ s.rule = 1
  · rw [decide_eq_true hr]
    have f6 := HF.out W R0.out 6 _ rfl
    rcases hr with hr | hr
    all_goals
      go_enter Tryz.func29, Tryz.ntmps29
      have f7 := HF.out W R0.out 7 _ rfl
      have f8 := HF.out W R0.out 8 _ rfl
      have f9 := HF.out W R0.out 9 _ rfl
      have f10 := HF.out W R0.out 10 _ rfl
      have f11 := HF.out W R0.out 11 _ rfl
      have f12 := HF.out W R0.out 12 _ rfl
      have f13 := HF.out W R0.out 13 _ rfl
      have f14 := HF.out W R0.out 14 _ rfl
      have f15 := HF.out W R0.out 15 _ rfl
      have f16 := HF.out W R0.out 16 _ rfl
      have f17 := HF.out W R0.out 17 _ rfl
      have f18 := HF.out W R0.out 18 _ rfl
      have f19 := HF.out W R0.out 19 _ rfl
      have f20 := HF.out W R0.out 20 _ rfl
      go_wp2_with fail
      rw [HW.out]
      clear hB
      refine (C1.out _ R0.out).mono ?_
      rintro e w1 ⟨rfl, q1⟩
      have R1 := Lib.hid (R0.out.trans (q1.mono R0.out.size))
      clear q1 f7 f8 f9 f10 f11 f12 f13 f14 f15 f16 f17 f18 f19 f20
      cases y
      · go_wp2
        go_ret
        exact ⟨rfl, FIN.out _ R1.out⟩
      have f21 := HF.out w1 R1.out 21 _ rfl
      go_wp2_with fail
      refine (C2.out _ R1.out).mono ?_
      rintro e w2 ⟨rfl, q2⟩
      have R2 := Lib.hid (R1.out.trans (q2.mono R1.out.size))
      clear q2 f21
      go_wp2
      go_ret
      exact ⟨by simp, FIN.out _ R2.out⟩
  · rw [decide_eq_false hr]
    have f6 := HF.out W R0.out 6 _ rfl
    have h0 : (s.rule == 0) = false := by simp; omega
    have h1 : (s.rule == 1) = false := by simp; omega
    go_enter Tryz.func29, Tryz.ntmps29
    go_wp2
    go_ret
    refine ⟨rfl, ?_⟩
    rw [HW.out]
    exact FIN.out _ R0.out

set_option maxRecDepth 100000 in
set_option maxHeartbeats 4000000 in
theorem sh_line {w : World} {s : Shp} (h : ShIn w s) : Calls Tryz.prog 30 #[.agg (shC s)] w fun e w' => e = .returned (.bool (drawOk s)) ∧ Below w.heap.size w w' := by
  obtain ⟨B, hB⟩ : ∃ B, w.heap.size = B := ⟨_, rfl⟩
  obtain ⟨W, hW⟩ : ∃ W, w.alloc (.cells (shC s) 34) = W := ⟨_, rfl⟩
  obtain ⟨hi, hk, hb⟩ := h.start hB hW
  have HBB := Lib.hid hB
  have HW := Lib.hid hW
  obtain ⟨x1, hx1⟩ : ∃ x, right s.Wd = x := ⟨_, rfl⟩
  obtain ⟨x2, hx2⟩ : ∃ x, right s.F = x := ⟨_, rfl⟩
  obtain ⟨x3, hx3⟩ : ∃ x, right s.T = x := ⟨_, rfl⟩
  obtain ⟨x4, hx4⟩ : ∃ x, okD s.D = x := ⟨_, rfl⟩
  have C1 : Hid (∀ w', Below W.heap.size W w' → Calls Tryz.prog 53 #[s.vWd] w' fun e w'' => e = .returned (.bool x1) ∧ Below w'.heap.size w' w'') := Lib.hid (fun w' h' => by rw [← hx1]; exact k_right (hi.below h').Wd)
  have C2 : Hid (∀ w', Below W.heap.size W w' → Calls Tryz.prog 53 #[s.vF] w' fun e w'' => e = .returned (.bool x2) ∧ Below w'.heap.size w' w'') := Lib.hid (fun w' h' => by rw [← hx2]; exact k_right (hi.below h').F)
  have C3 : Hid (∀ w', Below W.heap.size W w' → Calls Tryz.prog 53 #[s.vT] w' fun e w'' => e = .returned (.bool x3) ∧ Below w'.heap.size w' w'') := Lib.hid (fun w' h' => by rw [← hx3]; exact k_right (hi.below h').T)
  have C4 : Hid (∀ w', Below W.heap.size W w' → Calls Tryz.prog 57 #[s.vD] w' fun e w'' => e = .returned (.bool x4) ∧ Below w'.heap.size w' w'') := Lib.hid (fun w' h' => by rw [← hx4]; exact below_of (d_right (hi.below h').D))
  obtain ⟨cp, hcp⟩ : ∃ x, decide (s.cap = 0 ∨ s.cap = 1) = x := ⟨_, rfl⟩
  have E : drawOk s = (x1 && x2 && x3 && cp && x4) := by unfold drawOk; rw [hx1, hx2, hx3, hx4, hcp]
  have HCP := Lib.hid hcp
  clear hcp
  rw [E]
  clear E
  have F : ∀ w', Below W.heap.size W w' → ∀ j u, (shC s)[j]? = some u → w'.cell? ⟨B, j, none⟩ = some u := fun w' h' j u hu => (hk.below h' hk.lt).cell j u hu
  have HF := Lib.hid F
  have R0 : Hid (Below W.heap.size W W) := Lib.hid (Below.refl _ _)
  have hFin : ∀ w', Below W.heap.size W w' → Below w.heap.size w w' := fun w' h' => by rw [hB]; exact hb.trans (h'.mono (by have := hk.lt; omega))
  have FIN := Lib.hid hFin
  clear hi hk hb hW hx1 hx2 hx3 hx4 F h hFin
  go_enter Tryz.func30, Tryz.ntmps30
  have f23 := HF.out W R0.out 23 _ rfl
  go_wp2_with fail
  rw [HW.out]
  clear hB
  refine (C1.out _ R0.out).mono ?_
  rintro e w1 ⟨rfl, q1⟩
  have R1 := Lib.hid (R0.out.trans (q1.mono R0.out.size))
  clear q1 f23
  cases x1
  · go_wp2
    go_ret
    exact ⟨rfl, FIN.out _ R1.out⟩
  have f30 := HF.out w1 R1.out 30 _ rfl
  go_wp2_with fail
  refine (C2.out _ R1.out).mono ?_
  rintro e w2 ⟨rfl, q2⟩
  have R2 := Lib.hid (R1.out.trans (q2.mono R1.out.size))
  clear q2 f30
  cases x2
  · go_wp2
    go_ret
    exact ⟨rfl, FIN.out _ R2.out⟩
  have f31 := HF.out w2 R2.out 31 _ rfl
  go_wp2_with fail
  refine (C3.out _ R2.out).mono ?_
  rintro e w3 ⟨rfl, q3⟩
  have R3 := Lib.hid (R2.out.trans (q3.mono R2.out.size))
  clear q3 f31
  cases x3
  · go_wp2
    go_ret
    exact ⟨rfl, FIN.out _ R3.out⟩
  have f28 := HF.out w3 R3.out 28 _ rfl
  by_cases hc : s.cap = 0 ∨ s.cap = 1
  · obtain rfl : cp = true := by rw [← HCP.out]; exact decide_eq_true hc
    rcases hc with hc | hc
    all_goals
      have f29 := HF.out w3 R3.out 29 _ rfl
      go_wp2_with fail
      refine (C4.out _ R3.out).mono ?_
      rintro e w4 ⟨rfl, q4⟩
      have R4 := Lib.hid (R3.out.trans (q4.mono R3.out.size))
      clear q4 f29
      go_wp2
      go_ret
      exact ⟨rfl, FIN.out _ R4.out⟩
  · obtain rfl : cp = false := by rw [← HCP.out]; exact decide_eq_false hc
    have h0 : (s.cap == 0) = false := by simp; omega
    have h1 : (s.cap == 1) = false := by simp; omega
    go_wp2
    go_ret
    exact ⟨rfl, FIN.out _ R3.out⟩

end Go.Proofs.YtglbfpjjnboeaaaGreat

namespace Go.Proofs.YtglbfpjjnboeaaaGreat
open Go.RowKit
open M

set_option maxRecDepth 100000 in
set_option maxHeartbeats 2000000 in
theorem r8_keys {v : Value} {ks : List Pk} {w : World} (h : Kl w v ks) (hm : Mkd ks) :
    Calls Tryz.prog 32 #[v] w fun e w' => e = .returned (.bool (fitN ks ks.length)) ∧ Below w.heap.size w w' := by
  have hs := h
  obtain ⟨ao, cap, rfl, hf, _⟩ := h
  obtain ⟨N, hN⟩ : ∃ N, ks.length = N := ⟨_, rfl⟩
  have f4 : N ≤ 4 := by rw [← hN]; exact hm.few
  rw [hN] at hf hs ⊢
  have HS := Lib.hid hs
  have HN := Lib.hid hN
  have HM := Lib.hid hm
  obtain ⟨B, hB⟩ : ∃ B, w.heap.size = B := ⟨_, rfl⟩
  have HB := Lib.hid hB
  clear hs hN hm hB hf
  have o0 : (N : Int) ≤ 32 := by omega
  go_enter Tryz.func32, Tryz.ntmps32
  go_wp2
  go_loopw [3] (fun i wr => ∃ n : Nat, n ≤ N ∧ i = .int .i64 n ∧ fitN ks n = true ∧ Below B w wr) (fun i _ => N - (intOf i).toNat)
  case atStart => exact ⟨0, by omega, rfl, rfl, Below.refl _ _⟩
  case round =>
    obtain ⟨n, hn, rfl, hst, hb⟩ := hrel
    have HST := Lib.hid hst
    have HBD := Lib.hid hb
    have sz : Hid (B ≤ wr.heap.size) := Lib.hid (by have := hb.size; have := HB.out; omega)
    clear hst
    by_cases hlt : n < N
    · obtain ⟨g, o, e1, r0, l0⟩ := HS.out.row (by omega)
      have rr := r0.below hb (by have := r0.lt (by omega); have := HB.out; omega) (by have := HB.out; omega)
      subst e1
      have r' := fun z => rr.later (by omega) z
      have ok := HM.out.okP (i := n) (by omega)
      have nz := HM.out.pos (i := n) (by omega)
      have oh := HM.out.okHow (i := n) (by omega)
      have tk := HM.out.tick n (by omega)
      obtain ⟨f, hf⟩ : ∃ f, fits (pk ks 0).cl (pk ks 0).ps (pk ks n).cl (pk ks n).ps = f := ⟨_, rfl⟩
      have FF := Lib.hid hf
      have MV : Hid (∀ z : Later wr, Calls Tryz.prog 58 #[.int .i64 (pk ks n).t, .int .i64 (pk ks n).h, .agg #[.int .i64 (pk ks n).a, .int .i64 (pk ks n).b, .int .i64 (pk ks n).c, .int .i64 (pk ks n).d]] z.to fun e w'' => e = .returned (.bool true) ∧ Below z.to.heap.size z.to w'') := Lib.hid (fun z => by
        have h := r5_moves (pk ks n).t (pk ks n).h (pk ks n).a (pk ks n).b (pk ks n).c (pk ks n).d z.to
        rw [oh, show okIn (pk ks n).t 1073741824 = true by unfold okIn; simp; omega] at h
        exact h)
      have RT : Hid (∀ z : Later wr, Calls Tryz.prog 60 #[.agg #[.bool (pk ks n).cl, (pk ks n).v]] z.to fun e w'' => e = .returned (.bool true) ∧ Below z.to.heap.size z.to w'') := Lib.hid (fun z => by have h := r8_right (pk ks n).cl ((r' z).sl n (by omega)); rw [ok] at h; exact h)
      have FT : Hid (∀ z : Later wr, Calls Tryz.prog 61 #[.agg #[.bool (pk ks n).cl, (pk ks n).v], .agg #[.bool (pk ks 0).cl, (pk ks 0).v]] z.to fun e w'' => e = .returned (.bool f) ∧ Below z.to.heap.size z.to w'') := Lib.hid (fun z => by have h := r8_fits (pk ks n).cl (pk ks 0).cl ((r' z).sl n (by omega)) ((r' z).sl 0 (by omega)); rw [fits_comm, hf] at h; exact h)
      have hx : ∃ ao cap, (pk ks n).v = .slice ao (pk ks n).ps.length cap := by obtain ⟨a, b, c, _⟩ := rr.sl n (by omega); exact ⟨a, b, c⟩
      have h0 := (rr.sl 0 (by omega)).shape
      have c0 := fun z => (r' z).c0 n (by omega)
      have c1 := fun z => (r' z).c1 n (by omega)
      have c2 := fun z => (r' z).c2 n (by omega)
      have c3 := fun z => (r' z).c3 n (by omega)
      have c4 := fun z => (r' z).c4 n (by omega)
      have c5 := fun z => (r' z).c5 n (by omega)
      have c6 := fun z => (r' z).c6 n (by omega)
      have c7 := fun z => (r' z).c7 n (by omega)
      have b1 := fun z => (r' z).c1 0 (by omega)
      have b2 := fun z => (r' z).c2 0 (by omega)
      simp only [Nat.zero_mul, Nat.add_zero] at b1 b2
      have o1 : (n : Int) < N := by omega
      have oz : (0 : Int) < N := by omega
      have oy : 0 < N := by omega
      have EF : Hid (f = false → fitN ks N = false) := Lib.hid (fun e => fitN_off hlt (by rw [FF.out]; exact e))
      have NX : Hid (f = true → fitN ks (n + 1) = true) := Lib.hid (fun e => by unfold fitN; rw [HST.out, FF.out, e]; rfl)
      by_cases hz : n = 0
      · subst hz
        simp only [Nat.zero_mul, Nat.add_zero] at c0 c1 c2 c3 c4 c5 c6 c7
        obtain ⟨x, ex⟩ : ∃ x, pk ks 0 = x := ⟨_, rfl⟩
        rw [ex] at c0 c1 c2 c3 c4 c5 c6 c7 b1 b2 hx nz
        simp only [ex] at MV RT FT
        clear r' rr r0 l0 hb ok oh tk hf FF h0 HS ex b1 b2 o1
        obtain ⟨xt, xcl, xv, xps, xh, xa, xb, xcc, xd⟩ := x
        obtain ⟨xo, xc, e1⟩ := hx
        simp only at e1 nz
        subst e1
        obtain ⟨L, hL⟩ : ∃ L, xps.length = L := ⟨_, rfl⟩
        have nz1 : ((L : Int) == 0) = false := eqz (by omega)
        have nz2 : ¬ (L : Int) = 0 := by omega
        simp only [hL] at c2 RT FT
        clear nz hL
        cases f
        · have EG := Lib.hid (EF.out rfl)
          clear EF NX
          go_wp2_with fail
          refine wp_region_class (C := fun w' => ∃ z : Later wr, w' = z.to) (by kernel_rfl) (by kernel_rfl) ⟨⟨_, below_drew (Below.refl _ _)⟩, rfl⟩ ?_
          repeat (go_big_quiet_step (first | (go_at_call 58; exact Later.calls (MV.out _)) | (go_at_call 60; exact Later.calls (RT.out _)) | (go_at_call 61; exact Later.calls (FT.out _))))
          refine wpQuiet_nil ?_
          rintro _ ⟨z, rfl⟩
          go_wp2
          go_ret
          exact ⟨by rw [EG.out]; rfl, by rw [HB.out]; exact HBD.out.trans (z.below.mono sz.out)⟩
        · have NG := Lib.hid (NX.out rfl)
          clear EF NX
          go_wp2_with fail
          refine wp_region_class (C := fun w' => ∃ z : Later wr, w' = z.to) (by kernel_rfl) (by kernel_rfl) ⟨⟨_, below_drew (Below.refl _ _)⟩, rfl⟩ ?_
          repeat (go_big_quiet_step (first | (go_at_call 58; exact Later.calls (MV.out _)) | (go_at_call 60; exact Later.calls (RT.out _)) | (go_at_call 61; exact Later.calls (FT.out _))))
          refine wpQuiet_nil ?_
          rintro _ ⟨z, rfl⟩
          have Z := Lib.hid (HBD.out.trans (z.below.mono sz.out))
          obtain ⟨Y, hY⟩ : ∃ Y, z.to = Y := ⟨_, rfl⟩
          rw [hY] at Z ⊢
          clear hY c0 c1 c2 c3 c4 c5 c6 c7
          go_wp2
          go_roundw
          case rel => exact ⟨1, by omega, by go_num, NG.out, Z.out⟩
          case measure => simp [intOf]; omega
      · obtain ⟨m, hm⟩ : ∃ m : Nat, n = m + 1 := ⟨n - 1, by omega⟩
        have e1 : (n : Int) - 1 = (m : Int) := by omega
        have e2 : IntKind.i64.wrap ((n : Int) - 1) = (m : Int) := by rw [e1]; exact IntWalk.i64_in _ (by omega)
        have o2 : (m : Int) < N := by omega
        have o3 : 0 < n := by omega
        have d0 := fun z => (r' z).c0 m (by omega)
        have hup := HM.out.up m (by omega)
        rw [← hm] at hup
        obtain ⟨x, ex⟩ : ∃ x, pk ks n = x := ⟨_, rfl⟩
        obtain ⟨y, ey⟩ : ∃ x, pk ks 0 = x := ⟨_, rfl⟩
        obtain ⟨T, eT⟩ : ∃ T, (pk ks m).t = T := ⟨_, rfl⟩
        rw [ex] at c0 c1 c2 c3 c4 c5 c6 c7 hx nz hup
        rw [ey] at b1 b2 h0
        rw [eT] at d0 hup
        simp only [ex] at MV RT FT
        simp only [ey] at FT
        clear r' rr r0 l0 hb ok oh tk hf FF HS ex ey eT hm
        obtain ⟨xt, xcl, xv, xps, xh, xa, xb, xcc, xd⟩ := x
        obtain ⟨yt, ycl, yv, yps, yh, ya, yb, ycc, yd⟩ := y
        obtain ⟨xo, xc, ex1⟩ := hx
        obtain ⟨yo, yn, yc, ey1⟩ := h0
        simp only at ex1 nz ey1 hup
        subst ex1 ey1
        obtain ⟨L, hL⟩ : ∃ L, xps.length = L := ⟨_, rfl⟩
        have nz1 : ((L : Int) == 0) = false := eqz (by omega)
        have nz2 : ¬ (L : Int) = 0 := by omega
        simp only [hL] at c2 RT FT
        have hup2 : decide (xt ≤ T) = false := decide_eq_false (by omega)
        clear nz hL
        cases f
        · have EG := Lib.hid (EF.out rfl)
          clear EF NX
          go_wp2_with fail
          refine wp_region_class (C := fun w' => ∃ z : Later wr, w' = z.to) (by kernel_rfl) (by kernel_rfl) ⟨⟨_, below_drew (Below.refl _ _)⟩, rfl⟩ ?_
          repeat (go_big_quiet_step (first | (go_at_call 58; exact Later.calls (MV.out _)) | (go_at_call 60; exact Later.calls (RT.out _)) | (go_at_call 61; exact Later.calls (FT.out _))))
          refine wpQuiet_nil ?_
          rintro _ ⟨z, rfl⟩
          go_wp2
          go_ret
          exact ⟨by rw [EG.out]; rfl, by rw [HB.out]; exact HBD.out.trans (z.below.mono sz.out)⟩
        · have NG := Lib.hid (NX.out rfl)
          clear EF NX
          go_wp2_with fail
          refine wp_region_class (C := fun w' => ∃ z : Later wr, w' = z.to) (by kernel_rfl) (by kernel_rfl) ⟨⟨_, below_drew (Below.refl _ _)⟩, rfl⟩ ?_
          repeat (go_big_quiet_step (first | (go_at_call 58; exact Later.calls (MV.out _)) | (go_at_call 60; exact Later.calls (RT.out _)) | (go_at_call 61; exact Later.calls (FT.out _))))
          refine wpQuiet_nil ?_
          rintro _ ⟨z, rfl⟩
          have Z := Lib.hid (HBD.out.trans (z.below.mono sz.out))
          obtain ⟨Y, hY⟩ : ∃ Y, z.to = Y := ⟨_, rfl⟩
          rw [hY] at Z ⊢
          clear hY c0 c1 c2 c3 c4 c5 c6 c7 d0 b1 b2
          go_wp2
          go_roundw
          case rel => exact ⟨n + 1, by omega, by go_num, NG.out, Z.out⟩
          case measure => simp [intOf]; omega
    · obtain rfl : n = N := by omega
      have o1 : (n : Int) ≤ n := by omega
      clear hb
      go_wp2
      go_ret
      exact ⟨by rw [HST.out]; rfl, by rw [HB.out]; exact HBD.out⟩

/-- The share between two keys of a tape is what the document says. -/
theorem share_eq {x y : Pk} {t : Int} (hh : x.h = 0 ∨ x.h = 1) (h1 : x.t ≤ t) (h2 : ¬ y.t ≤ t) : atk [barev x 0, barev y 65536] t 0 = goes x.h x.a x.b x.c x.d (prt x.t y.t t) := by
  have e1 : ky [barev x 0, barev y 65536] 0 = barev x 0 := rfl
  have e2 : ky [barev x 0, barev y 65536] 1 = barev y 65536 := rfl
  have f : find [barev x 0, barev y 65536] t = 0 := by
    unfold find
    show findN _ t 2 = 0
    rw [findN_miss (by rw [e2]; exact h2), findN_hit (by rw [e1]; exact h1)]
    rfl
  unfold atk
  rw [f]
  rw [if_neg (by simp), if_neg (by decide), if_neg (by simp)]
  show tween (ky _ 0) (ky _ 1) t = _
  rw [e1, e2]
  unfold tween
  show mid 0 65536 (goes x.h x.a x.b x.c x.d (prt x.t y.t t)) = _
  have pb := prt_bd x.t y.t t
  have gb := goes_bd (h := x.h) (a := x.a) (b := x.b) (c := x.c) (d := x.d) (by omega) (by omega) pb.1 pb.2
  rw [mid_small (by omega) (by omega) (by omega) (by omega) gb.1 gb.2]
  omega
theorem find_hit {ks : List Ky} {t : Int} {n i : Nat} (h : findN ks t n = (i : Int)) : (ky ks i).t ≤ t ∧ ∀ j, i < j → j < n → ¬ (ky ks j).t ≤ t := by
  induction n with
  | zero => exfalso; unfold findN at h; omega
  | succ n ih =>
    by_cases hc : (ky ks n).t ≤ t
    · rw [findN_hit hc] at h
      have e : n = i := by omega
      subst e
      exact ⟨hc, fun j h1 h2 => by omega⟩
    · rw [findN_miss hc] at h
      obtain ⟨a, b⟩ := ih h
      refine ⟨a, fun j h1 h2 => ?_⟩
      by_cases e : j = n
      · subst e; exact hc
      · exact b j h1 (by omega)
theorem Mkd.same {ks : List Pk} (h : Mkd ks) (t : Int) : atps ks t = ratps ks t := by
  by_cases h0 : ks.length = 0
  · unfold atps ratps; rw [if_pos h0, if_pos h0]
  · have self : ∀ i, i < ks.length → morph (pk ks i).cl (pk ks i).ps (pk ks i).cl (pk ks i).ps 0 = (pk ks i).ps := fun i hi => by
      rw [morph_yes (by rw [fits_eq rfl]; simp)]
      exact midL_zero (h.small i hi) (h.small i hi) rfl
    rcases atp_cases ks t (by omega) with ⟨f1, _, f3⟩ | ⟨i, f1, f4, _, f3⟩ | ⟨i, f1, f4, _, f3⟩
    · rcases ratp_cases ks t (by omega) with ⟨g1, _, g3⟩ | ⟨j, g1, g4, _, g3⟩ | ⟨j, g1, g4, _, g3⟩
      · rw [f3, g3, self 0 (by omega)]
      · omega
      · omega
    · rcases ratp_cases ks t (by omega) with ⟨g1, _, g3⟩ | ⟨j, g1, g4, _, g3⟩ | ⟨j, g1, g4, _, g3⟩
      · omega
      · have e : i = j := by omega
        subst e
        rw [f3, g3, self i (by omega)]
      · omega
    · rcases ratp_cases ks t (by omega) with ⟨g1, _, g3⟩ | ⟨j, g1, g4, _, g3⟩ | ⟨j, g1, g4, _, g3⟩
      · omega
      · omega
      · have e : i = j := by omega
        subst e
        have hh := f1
        unfold find at hh
        rw [barep_length] at hh
        obtain ⟨a, b⟩ := find_hit hh
        have b1 := b (i + 1) (by omega) f4
        rw [ky_barep (by omega)] at a b1
        rw [f3, g3, share_eq (h.how i (by omega)) a b1]
theorem atps_few {ks : List Pk} (h : Mkd ks) (t : Int) : (atps ks t).length ≤ 8796093022208 := by
  by_cases h0 : ks.length = 0
  · unfold atps; rw [if_pos h0]; simp
  · rcases atp_cases ks t (by omega) with ⟨f1, _, f3⟩ | ⟨i, f1, f4, _, f3⟩ | ⟨i, f1, f4, _, f3⟩
    · rw [f3]; have := (h.pos (i := 0) (by omega)).2; omega
    · rw [f3]; have := (h.pos (i := i) (by omega)).2; omega
    · rw [f3, morph_length]; have := (h.pos (i := i) (by omega)).2; omega
theorem same_d (c : Bool) (ps : List Pt) : ((c == c) && decide (ps = ps)) = true := by simp

end Go.Proofs.YtglbfpjjnboeaaaGreat

namespace Go.Proofs.YtglbfpjjnboeaaaGreat
open Go Go.RowKit

section
variable {P : Program}
theorem gives_agree {ops : Array Oper} {o : Oper} {x y : Act} {w : World} {K : Value → World → Prop} (h : Agree ops o x y) (hs : ∀ cs b, o.op ≠ .select cs b) (hg : gives P o y w K) : gives P o x w K := by
  unfold gives at hg ⊢
  rw [h.exec hs]
  exact hg
/-- Operation o looks at no made value's slot. -/
def noneB (L : List Oper) (mk : List Nat) (o : Oper) : Bool := (o.looksAt L.toArray).all (fun d => mk.all fun j => dstAt L j != some d) && (match o.op with | .select .. => false | _ => true)
/-- Operation o looks at no made value's slot but that of k. -/
def oneB (L : List Oper) (mk : List Nat) (k : Nat) (o : Oper) : Bool :=
  (o.looksAt L.toArray).all (fun d => dstAt L k == some d || mk.all fun j => dstAt L j != some d) && mk.all (fun j => j == k || dstAt L j != dstAt L k) && (dstAt L k).isSome && (match o.op with | .select .. => false | _ => true)
section
variable {L : List Oper} {mk : List Nat} {o : Oper} {p : Nat} {G : Nat → Option Value} {e : Act}
theorem nosel {o : Oper} (h : (match o.op with | .select .. => false | _ => true) = true) : ∀ cs b, o.op ≠ .select cs b := fun cs b e => by rw [e] at h; cases h
theorem agree_none (h : noneB L mk o = true) (hGn : ∀ k, k ∉ mk → G k = none) : Agree L.toArray o (putV (dstAt L) G p e) e := fun d hd => by
  unfold noneB at h
  rw [Bool.and_eq_true] at h
  have h1 := List.all_eq_true.1 h.1 d hd
  refine putV_at e p fun k hk hkn he => ?_
  have hkm : k ∈ mk := by
    apply Classical.byContradiction
    intro hn
    exact hkn (hGn k hn)
  have := List.all_eq_true.1 h1 k hkm
  rw [he] at this
  simp at this
theorem gives_none {w : World} {K : Value → World → Prop} (h : noneB L mk o = true) (hGn : ∀ k, k ∉ mk → G k = none) (hg : gives P o e w K) : gives P o (putV (dstAt L) G p e) w K :=
  gives_agree (agree_none h hGn) (nosel (by unfold noneB at h; rw [Bool.and_eq_true] at h; exact h.2)) hg
theorem putV_val {D : Nat → Option Tmp} {k : Nat} {d : Tmp} {v : Value} (a : Act) (hG : G k = some v) (hD : D k = some d) : ∀ m, k < m → (∀ j, j < m → G j ≠ none → j ≠ k → D j ≠ some d) → (putV D G m a).tmps[d]? = (a.put (some d) v).tmps[d]? ∧ (putV D G m a).tmps.size = a.tmps.size
  | 0, h, _ => by omega
  | m + 1, h, hd => by
    have hsz : ∀ m, (putV D G m a).tmps.size = a.tmps.size := by
      intro m
      induction m with
      | zero => rfl
      | succ m ih =>
        unfold putV
        cases G m with
        | none => exact ih
        | some g' =>
          simp only
          cases D m with
          | none => exact ih
          | some x => simpa [Act.put] using ih
    refine ⟨?_, hsz _⟩
    by_cases e : k = m
    · subst e
      unfold putV
      rw [hG, hD]
      simp only [Act.put, Array.getElem?_setIfInBounds, if_true]
      rw [hsz]
    · have ih := (putV_val a hG hD m (by omega) (fun j hj => hd j (by omega))).1
      unfold putV
      cases hg : G m with
      | none => exact ih
      | some g =>
        simp only
        rw [← ih]
        have hn := hd m (by omega) (by rw [hg]; simp) (by omega)
        cases hdm : D m with
        | none => rfl
        | some x =>
          rw [hdm] at hn
          have : x ≠ d := fun ee => hn (by rw [ee])
          simp [Act.put, this]
theorem gives_one {w : World} {K : Value → World → Prop} {k : Nat} {v : Value} (h : oneB L mk k o = true) (hGn : ∀ k, k ∉ mk → G k = none) (hk : k < p) (hG : G k = some v) (hg : gives P o (e.put (dstAt L k) v) w K) : gives P o (putV (dstAt L) G p e) w K := by
  unfold oneB at h
  simp only [Bool.and_eq_true] at h
  obtain ⟨⟨⟨h1, h2⟩, h3⟩, h4⟩ := h
  have Gmk : ∀ k, G k ≠ none → k ∈ mk := fun k hk => by
    apply Classical.byContradiction
    intro hn
    exact hk (hGn k hn)
  obtain ⟨dk, hdk⟩ := Option.isSome_iff_exists.1 h3
  refine gives_agree (ops := L.toArray) (fun d hd => ?_) (nosel h4) hg
  have hl := List.all_eq_true.1 h1 d hd
  rw [Bool.or_eq_true] at hl
  by_cases e1 : dstAt L k = some d
  · rw [e1]
    refine (putV_val e hG e1 p hk fun j hj hjn hne he => ?_).1
    have := List.all_eq_true.1 h2 j (Gmk j hjn)
    rw [he, e1] at this
    simp [hne] at this
  · rcases hl with hl | hl
    · exact absurd (by simpa using hl) e1
    · rw [putV_at e p (fun j hj hjn he => by
        have := List.all_eq_true.1 hl j (Gmk j hjn)
        rw [he] at this
        simp at this)]
      rw [hdk] at e1 ⊢
      have : dk ≠ d := fun ee => e1 (by rw [ee])
      simp [Act.put, this]
end
end

/-- Variables that are made (number x.1) and stored into (number x.2.1). -/
structure Vars (B : Nat) (t : TypeId) (z : Array Value) (vs : List (Nat × Nat × Array Value)) (G : Nat → Option Value) (w : World) : Prop where
  has : ∀ x ∈ vs, ∀ v, G x.1 = some v → ∃ g, v = .pointer (some ⟨g, 0, none⟩) ∧ B ≤ g ∧ Has w g (if G x.2.1 = none then z else x.2.2) t
  ne : ∀ x ∈ vs, ∀ y ∈ vs, x.1 ≠ y.1 → ∀ v, G x.1 = some v → G y.1 ≠ some v
  late : ∀ x ∈ vs, G x.1 = none → G x.2.1 = none
section
variable {B : Nat} {t : TypeId} {z : Array Value} {vs : List (Nat × Nat × Array Value)} {G : Nat → Option Value} {w w' : World}
theorem Vars.stay (h : Vars B t z vs G w) (hb : Below w.heap.size w w') : Vars B t z vs G w' :=
  ⟨fun x hx v hv => by obtain ⟨g, e, hg, hh⟩ := h.has x hx v hv; exact ⟨g, e, hg, hh.below hb hh.lt⟩, h.ne, h.late⟩
theorem Vars.start : Vars B t z vs (fun _ => none) w := ⟨fun _ _ _ h => by (cases h), fun _ _ _ _ _ _ h => by (cases h), fun _ _ _ => rfl⟩
/-- No two have a number in common. -/
def varsB (vs : List (Nat × Nat × Array Value)) : Bool := vs.all fun x => vs.all fun y => x.1 != y.2.1 && ((x.1 == y.1) == (x.2.1 == y.2.1))
theorem Vars.alloc {i s : Nat} {cs : Array Value} (h : Vars B t z vs G w) (hv : varsB vs = true) (hx : (i, s, cs) ∈ vs) (hu : ∀ y ∈ vs, y.1 = i → y = (i, s, cs)) (hG : G i = none) (hB : B ≤ w.heap.size) : Vars B t z vs (updV G i (.pointer (some ⟨w.heap.size, 0, none⟩))) (w.alloc (.cells z t)) := by
  have hs : ∀ y ∈ vs, y.2.1 ≠ i := fun y hy e => by
    have := List.all_eq_true.1 (List.all_eq_true.1 hv _ hx) y hy
    simp [e] at this
  refine ⟨fun x hx' v hv' => ?_, fun x hx' y hy hne v h1 h2 => ?_, fun x hx' hn => ?_⟩
  · rw [updV_ne G _ (hs x hx')]
    by_cases e : x.1 = i
    · rw [e, updV_eq] at hv'
      cases hv'
      have := hu x hx' e
      subst this
      rw [if_pos (h.late _ hx' hG)]
      exact ⟨_, rfl, hB, has_new rfl⟩
    · rw [updV_ne G _ e] at hv'
      obtain ⟨g, e1, hg, hh⟩ := h.has x hx' v hv'
      exact ⟨g, e1, hg, hh.alloc _⟩
  · by_cases e : x.1 = i
    · by_cases e2 : y.1 = i
      · omega
      · rw [e, updV_eq] at h1
        rw [updV_ne G _ e2] at h2
        cases h1
        obtain ⟨g, e1, _, hh⟩ := h.has y hy _ h2
        have := hh.lt
        simp at e1
        try omega
    · by_cases e2 : y.1 = i
      · rw [updV_ne G _ e] at h1
        rw [e2, updV_eq] at h2
        cases h2
        obtain ⟨g, e1, _, hh⟩ := h.has x hx' _ h1
        have := hh.lt
        simp at e1
        try omega
      · rw [updV_ne G _ e] at h1
        rw [updV_ne G _ e2] at h2
        exact h.ne x hx' y hy hne v h1 h2
  · rw [updV_ne G _ (hs x hx')]
    by_cases e : x.1 = i
    · rw [e, updV_eq] at hn; cases hn
    · rw [updV_ne G _ e] at hn; exact h.late x hx' hn
theorem Vars.store {i s g : Nat} {a b za zb u : Value} (hz : z = #[za, zb]) (h : Vars B t z vs G w) (hv : varsB vs = true) (hx : (i, s, #[a, b]) ∈ vs) (hu : ∀ y ∈ vs, y.1 = i → y = (i, s, #[a, b])) (hi : G i = some (.pointer (some ⟨g, 0, none⟩))) (hG : G s = none) :
    Vars B t z vs (updV G s u) ((w.setCell ⟨g, 0, none⟩ a).setCell ⟨g, 1, none⟩ b) := by
  have hs : ∀ y ∈ vs, y.1 ≠ s := fun y hy e => by
    have := List.all_eq_true.1 (List.all_eq_true.1 hv y hy) _ hx
    simp [e] at this
  have hinj : ∀ y ∈ vs, y.2.1 = s → y.1 = i := fun y hy e => by
    have := List.all_eq_true.1 (List.all_eq_true.1 hv y hy) _ hx
    simp [e] at this
    exact this.2
  obtain ⟨g', eg, _, hh⟩ := h.has _ hx _ hi
  simp at eg
  subst eg
  rw [if_pos hG, hz] at hh
  have hnew : Has ((w.setCell ⟨g, 0, none⟩ a).setCell ⟨g, 1, none⟩ b) g #[a, b] t := by
    have := has_set (has_set hh 0 a) 1 b
    simpa using this
  refine ⟨fun x hx' v hv' => ?_, fun x hx' y hy hne v h1 h2 => ?_, fun x hx' hn => ?_⟩
  · rw [updV_ne G _ (hs x hx')] at hv'
    obtain ⟨g2, e1, hg2, hh2⟩ := h.has x hx' v hv'
    by_cases e : x.2.1 = s
    · have e2 := hinj x hx' e
      have := hu x hx' e2
      subst this
      rw [hi] at hv'
      cases hv'
      simp at e1
      subst e1
      rw [updV_eq, if_neg (by simp)]
      exact ⟨g, rfl, hg2, hnew⟩
    · rw [updV_ne G _ e]
      have hne : g2 ≠ g := fun eg => by
        subst eg
        by_cases e3 : x.1 = i
        · have := hu x hx' e3
          subst this
          exact e rfl
        · exact h.ne x hx' _ hx e3 v hv' (by rw [hi, e1])
      refine ⟨g2, e1, hg2, ?_⟩
      exact (heap_setCell_other _ ⟨g, _, none⟩ g2 _ (fun e => hne (by simpa using e))).trans ((heap_setCell_other _ ⟨g, _, none⟩ g2 _ (fun e => hne (by simpa using e))).trans hh2)
  · rw [updV_ne G _ (hs x hx')] at h1
    rw [updV_ne G _ (hs y hy)] at h2
    exact h.ne x hx' y hy hne v h1 h2
  · rw [updV_ne G _ (hs x hx')] at hn
    have := h.late x hx' hn
    by_cases e : x.2.1 = s
    · have e2 := hinj x hx' e
      rw [e2, hi] at hn
      cases hn
    · rw [updV_ne G _ e]; exact this
end

end Go.Proofs.YtglbfpjjnboeaaaGreat

namespace Go.Proofs.YtglbfpjjnboeaaaGreat
open Go Go.RowKit
open M

theorem two_set {W : World} {k : Nat} {t : TypeId} {a' b' : Value} (h : Has W k #[a', b'] t) (a b : Value) : Has ((W.setCell ⟨k, 0, none⟩ a).setCell ⟨k, 1, none⟩ b) k #[a, b] t := by
  have := has_set (has_set h 0 a) 1 b
  simpa using this
theorem two_off {W : World} {k k' : Nat} {t : TypeId} {cs : Array Value} (h : Has W k cs t) (hne : k' ≠ k) (a b : Value) : Has ((W.setCell ⟨k', 0, none⟩ a).setCell ⟨k', 1, none⟩ b) k cs t :=
  (heap_setCell_other _ ⟨k', _, none⟩ k _ (fun e => hne (by simpa using e.symm))).trans ((heap_setCell_other _ ⟨k', _, none⟩ k _ (fun e => hne (by simpa using e.symm))).trans h)
theorem below_two {W : World} {k B : Nat} (hk : B ≤ k) (a b : Value) : Below B W ((W.setCell ⟨k, 0, none⟩ a).setCell ⟨k, 1, none⟩ b) := ((Below.refl _ _).setCell hk _).setCell hk _
theorem int_zero (n : Nat) : ((n : Int) == 0) = decide (n = 0) := by by_cases h : n = 0 <;> simp [h]
theorem int_last {n N : Nat} : ((n : Int) == (N : Int) - 1) = decide (n + 1 = N) := by
  by_cases h : n + 1 = N
  · rw [decide_eq_true h]; simp; omega
  · rw [decide_eq_false h]; simp; omega
abbrev zc2 : Array Value := #[.int .i64 0, .int .i64 0]
theorem Prow.laterR {w : World} {R : World → Prop} {g o : Nat} {ps : List Pt} (h : Prow w g o ps) {i : Nat} (hi : i < ps.length) {p : Pt} (hp : pt ps i = p) (z : LaterR w R) : z.to.cell? ⟨g, o + i * 2, none⟩ = some (.int .i64 p.x) ∧ z.to.cell? ⟨g, o + i * 2 + 1, none⟩ = some (.int .i64 p.y) := by
  have h2 := h.block (z.below.block g (h.lt (by omega)))
  rw [← hp]
  exact ⟨h2.c0 i hi, h2.c1 i hi⟩

end Go.Proofs.YtglbfpjjnboeaaaGreat

namespace Go.Proofs.YtglbfpjjnboeaaaGreat
open Go.RowKit
open M

theorem rightN_offG {ks : List Ky} {n m : Nat} (hm : n + 1 ≤ m) (h : rightN ks (n + 1) = false) : rightN ks m = false := by
  induction m with
  | zero => omega
  | succ m ih =>
    by_cases e : n = m
    · subst e; exact h
    · have := ih (by omega)
      show (rightN ks m && _ && _) = false
      rw [this]
      rfl
theorem key_off {ks : List Pk} {n m : Nat} {c : Bool} (hm : n + 1 ≤ m) (h : (rightN (barep ks) (n + 1) && allN ks (n + 1)) = false) : (c && rightN (barep ks) m && allN ks m) = false := by
  rw [Bool.and_eq_false_iff] at h
  rcases h with h | h
  · rw [rightN_offG hm h]; simp
  · rw [allN_off hm h]; simp

set_option maxRecDepth 100000 in
set_option maxHeartbeats 2000000 in
theorem r8_keysG {v : Value} {ks : List Pk} {w : World} (h : Kl w v ks) :
    Calls Tryz.prog 32 #[v] w fun e w' => e = .returned (.bool (keysOk ks)) ∧ Below w.heap.size w w' := by
  have hs := h
  obtain ⟨ao, cap, rfl, hf, _⟩ := h
  obtain ⟨N, hN⟩ : ∃ N, ks.length = N := ⟨_, rfl⟩
  rw [hN] at hf hs ⊢
  have f4 : N ≤ 100 := hf
  have EK : Hid (keysOk ks = (decide (N ≤ 32) && rightN (barep ks) N && allN ks N)) := Lib.hid (by unfold keysOk M.right; rw [barep_length, hN])
  obtain ⟨K, hK⟩ : ∃ K, keysOk ks = K := ⟨_, rfl⟩
  rw [hK] at EK ⊢
  clear hK
  have HS := Lib.hid hs
  have HN := Lib.hid hN
  obtain ⟨B, hB⟩ : ∃ B, w.heap.size = B := ⟨_, rfl⟩
  have HB := Lib.hid hB
  clear hs hN hB hf
  have o0 : (N : Int) ≤ 100 := by omega
  go_enter Tryz.func32, Tryz.ntmps32
  go_wp2
  go_loopw [3] (fun i wr => ∃ n : Nat, n ≤ N ∧ i = .int .i64 n ∧ (rightN (barep ks) n = true ∧ allN ks n = true) ∧ Below B w wr) (fun i _ => N - (intOf i).toNat)
  case atStart => exact ⟨0, by omega, rfl, ⟨rfl, rfl⟩, Below.refl _ _⟩
  case round =>
    obtain ⟨n, hn, rfl, hst, hb⟩ := hrel
    have HST := Lib.hid hst
    have HBD := Lib.hid hb
    have sz : Hid (B ≤ wr.heap.size) := Lib.hid (by have := hb.size; have := HB.out; omega)
    clear hst
    by_cases hlt : n < N
    · obtain ⟨g, o, e1, r0, l0⟩ := HS.out.row (by omega)
      have rr := r0.below hb (by have := r0.lt (by omega); have := HB.out; omega) (by have := HB.out; omega)
      subst e1
      have r' := fun z => rr.later (by omega) z
      obtain ⟨f, hf⟩ : ∃ f, fits (pk ks 0).cl (pk ks 0).ps (pk ks n).cl (pk ks n).ps = f := ⟨_, rfl⟩
      obtain ⟨ok, hok⟩ : ∃ b, okP (pk ks n).cl (pk ks n).ps = b := ⟨_, rfl⟩
      obtain ⟨mv, hmv⟩ : ∃ b, (okIn (pk ks n).t 1073741824 && okHow (pk ks n).h (pk ks n).a (pk ks n).b (pk ks n).c (pk ks n).d) = b := ⟨_, rfl⟩
      have hkk : okK (barev (pk ks n) 0) = mv := by rw [← hmv]; unfold okK barev; simp only [show okIn 0 67108864 = true by decide, Bool.and_true]
      have MV : Hid (∀ z : Later wr, Calls Tryz.prog 58 #[.int .i64 (pk ks n).t, .int .i64 (pk ks n).h, .agg #[.int .i64 (pk ks n).a, .int .i64 (pk ks n).b, .int .i64 (pk ks n).c, .int .i64 (pk ks n).d]] z.to fun e w'' => e = .returned (.bool mv) ∧ Below z.to.heap.size z.to w'') := Lib.hid (fun z => by
        have h := r5_moves (pk ks n).t (pk ks n).h (pk ks n).a (pk ks n).b (pk ks n).c (pk ks n).d z.to
        rw [hmv] at h
        exact h)
      have RT : Hid (∀ z : Later wr, Calls Tryz.prog 60 #[.agg #[.bool (pk ks n).cl, (pk ks n).v]] z.to fun e w'' => e = .returned (.bool ok) ∧ Below z.to.heap.size z.to w'') := Lib.hid (fun z => by have h := r8_right (pk ks n).cl ((r' z).sl n (by omega)); rw [hok] at h; exact h)
      have FT : Hid (∀ z : Later wr, Calls Tryz.prog 61 #[.agg #[.bool (pk ks n).cl, (pk ks n).v], .agg #[.bool (pk ks 0).cl, (pk ks 0).v]] z.to fun e w'' => e = .returned (.bool f) ∧ Below z.to.heap.size z.to w'') := Lib.hid (fun z => by have h := r8_fits (pk ks n).cl (pk ks 0).cl ((r' z).sl n (by omega)) ((r' z).sl 0 (by omega)); rw [fits_comm, hf] at h; exact h)
      have hx : ∃ ao cap, (pk ks n).v = .slice ao (pk ks n).ps.length cap := by obtain ⟨a, b, c, _⟩ := rr.sl n (by omega); exact ⟨a, b, c⟩
      have h0 := (rr.sl 0 (by omega)).shape
      have c0 := fun z => (r' z).c0 n (by omega)
      have c1 := fun z => (r' z).c1 n (by omega)
      have c2 := fun z => (r' z).c2 n (by omega)
      have c3 := fun z => (r' z).c3 n (by omega)
      have c4 := fun z => (r' z).c4 n (by omega)
      have c5 := fun z => (r' z).c5 n (by omega)
      have c6 := fun z => (r' z).c6 n (by omega)
      have c7 := fun z => (r' z).c7 n (by omega)
      have b1 := fun z => (r' z).c1 0 (by omega)
      have b2 := fun z => (r' z).c2 0 (by omega)
      simp only [Nat.zero_mul, Nat.add_zero] at b1 b2
      have o1 : (n : Int) < N := by omega
      have oz : (0 : Int) < N := by omega
      have oy : 0 < N := by omega
      by_cases hz : n = 0
      · subst hz
        simp only [Nat.zero_mul, Nat.add_zero] at c0 c1 c2 c3 c4 c5 c6 c7
        obtain ⟨x, ex⟩ : ∃ x, pk ks 0 = x := ⟨_, rfl⟩
        rw [ex] at c0 c1 c2 c3 c4 c5 c6 c7 b1 b2 hx hkk hok hf
        simp only [ex] at MV RT FT
        have RN : rightN (barep ks) 1 = mv := by
          show (true && okK (ky (barep ks) 0) && (decide (0 = 0) || _)) = mv
          rw [ky_barep (by have := HN.out; omega), ex, hkk]
          simp
        have AN : allN ks 1 = (!decide (x.ps.length = 0) && ok && f) := by
          show (true && (!decide ((pk ks 0).ps.length = 0) && okP (pk ks 0).cl (pk ks 0).ps && fits (pk ks 0).cl (pk ks 0).ps (pk ks 0).cl (pk ks 0).ps)) = _
          rw [ex, hok, hf]
          simp
        obtain ⟨xt, xcl, xv, xps, xh, xa, xb, xcc, xd⟩ := x
        obtain ⟨xo, xc, e1⟩ := hx
        simp only at e1 AN
        subst e1
        obtain ⟨L, hL⟩ : ∃ L, xps.length = L := ⟨_, rfl⟩
        obtain ⟨em, hem⟩ : ∃ b, decide (L = 0) = b := ⟨_, rfl⟩
        have nz1 : ((L : Int) == 0) = em := by rw [← hem]; exact int_zero L
        simp only [hL] at c2 RT FT
        rw [hL, hem] at AN
        have EG : Hid ((mv && !em && ok && f) = false → K = false) := Lib.hid (fun h => by
          rw [EK.out]
          refine key_off (n := 0) (by omega) ?_
          show (rightN (barep ks) 1 && allN ks 1) = false
          rw [RN, AN]
          revert h; cases mv <;> cases em <;> cases ok <;> cases f <;> simp)
        have NX : Hid ((mv && !em && ok && f) = true → rightN (barep ks) 1 = true ∧ allN ks 1 = true) := Lib.hid (fun h => by
          rw [RN, AN]
          revert h; cases mv <;> cases em <;> cases ok <;> cases f <;> simp)
        clear r' rr r0 l0 hb hok hf hkk hmv h0 HS ex b1 b2 o1 RN AN hem hL
        cases mv
        case false =>
         have EF := Lib.hid (EG.out (by simp))
         clear EG NX
         go_wp2_with fail
         refine wp_region_class (C := fun w' => ∃ z : Later wr, w' = z.to) (by kernel_rfl) (by kernel_rfl) ⟨⟨_, below_drew (Below.refl _ _)⟩, rfl⟩ ?_
         repeat (go_big_quiet_step (first | (go_at_call 58; exact Later.calls (MV.out _)) | (go_at_call 60; exact Later.calls (RT.out _)) | (go_at_call 61; exact Later.calls (FT.out _))))
         refine wpQuiet_nil ?_
         rintro _ ⟨z, rfl⟩
         go_wp2
         go_ret
         exact ⟨by rw [EF.out]; rfl, by rw [HB.out]; exact HBD.out.trans (z.below.mono sz.out)⟩
        case true =>
         cases ok
         case false =>
          have EF := Lib.hid (EG.out (by simp))
          clear EG NX
          go_wp2_with fail
          refine wp_region_class (C := fun w' => ∃ z : Later wr, w' = z.to) (by kernel_rfl) (by kernel_rfl) ⟨⟨_, below_drew (Below.refl _ _)⟩, rfl⟩ ?_
          repeat (go_big_quiet_step (first | (go_at_call 58; exact Later.calls (MV.out _)) | (go_at_call 60; exact Later.calls (RT.out _)) | (go_at_call 61; exact Later.calls (FT.out _))))
          refine wpQuiet_nil ?_
          rintro _ ⟨z, rfl⟩
          go_wp2
          go_ret
          exact ⟨by rw [EF.out]; rfl, by rw [HB.out]; exact HBD.out.trans (z.below.mono sz.out)⟩
         case true =>
          cases em
          case true =>
           have EF := Lib.hid (EG.out (by simp))
           clear EG NX
           go_wp2_with fail
           refine wp_region_class (C := fun w' => ∃ z : Later wr, w' = z.to) (by kernel_rfl) (by kernel_rfl) ⟨⟨_, below_drew (Below.refl _ _)⟩, rfl⟩ ?_
           repeat (go_big_quiet_step (first | (go_at_call 58; exact Later.calls (MV.out _)) | (go_at_call 60; exact Later.calls (RT.out _)) | (go_at_call 61; exact Later.calls (FT.out _))))
           refine wpQuiet_nil ?_
           rintro _ ⟨z, rfl⟩
           go_wp2
           go_ret
           exact ⟨by rw [EF.out]; rfl, by rw [HB.out]; exact HBD.out.trans (z.below.mono sz.out)⟩
          case false =>
           cases f
           case false =>
            have EF := Lib.hid (EG.out (by simp))
            clear EG NX
            go_wp2_with fail
            refine wp_region_class (C := fun w' => ∃ z : Later wr, w' = z.to) (by kernel_rfl) (by kernel_rfl) ⟨⟨_, below_drew (Below.refl _ _)⟩, rfl⟩ ?_
            repeat (go_big_quiet_step (first | (go_at_call 58; exact Later.calls (MV.out _)) | (go_at_call 60; exact Later.calls (RT.out _)) | (go_at_call 61; exact Later.calls (FT.out _))))
            refine wpQuiet_nil ?_
            rintro _ ⟨z, rfl⟩
            go_wp2
            go_ret
            exact ⟨by rw [EF.out]; rfl, by rw [HB.out]; exact HBD.out.trans (z.below.mono sz.out)⟩
           case true =>
            have NG := Lib.hid (NX.out rfl)
            clear EG NX
            go_wp2_with fail
            refine wp_region_class (C := fun w' => ∃ z : Later wr, w' = z.to) (by kernel_rfl) (by kernel_rfl) ⟨⟨_, below_drew (Below.refl _ _)⟩, rfl⟩ ?_
            repeat (go_big_quiet_step (first | (go_at_call 58; exact Later.calls (MV.out _)) | (go_at_call 60; exact Later.calls (RT.out _)) | (go_at_call 61; exact Later.calls (FT.out _))))
            refine wpQuiet_nil ?_
            rintro _ ⟨z, rfl⟩
            have Z := Lib.hid (HBD.out.trans (z.below.mono sz.out))
            obtain ⟨Y, hY⟩ : ∃ Y, z.to = Y := ⟨_, rfl⟩
            rw [hY] at Z ⊢
            clear hY c0 c1 c2 c3 c4 c5 c6 c7
            try clear b1 b2
            try clear d0
            go_wp2
            go_roundw
            case rel => exact ⟨1, by omega, by go_num, NG.out, Z.out⟩
            case measure => simp [intOf]; omega
      · obtain ⟨m, hm⟩ : ∃ m : Nat, n = m + 1 := ⟨n - 1, by omega⟩
        have e1 : (n : Int) - 1 = (m : Int) := by omega
        have e2 : IntKind.i64.wrap ((n : Int) - 1) = (m : Int) := by rw [e1]; exact IntWalk.i64_in _ (by omega)
        have o2 : (m : Int) < N := by omega
        have o3 : 0 < n := by omega
        have d0 := fun z => (r' z).c0 m (by omega)
        obtain ⟨x, ex⟩ : ∃ x, pk ks n = x := ⟨_, rfl⟩
        obtain ⟨y, ey⟩ : ∃ x, pk ks 0 = x := ⟨_, rfl⟩
        obtain ⟨T, eT⟩ : ∃ T, (pk ks m).t = T := ⟨_, rfl⟩
        rw [ex] at c0 c1 c2 c3 c4 c5 c6 c7 hx hkk hok hf
        rw [ey] at b1 b2 h0 hf
        rw [eT] at d0
        simp only [ex] at MV RT FT
        simp only [ey] at FT
        obtain ⟨u, hup2⟩ : ∃ b, decide (x.t ≤ T) = b := ⟨_, rfl⟩
        have RN : rightN (barep ks) (n + 1) = (mv && !u) := by
          show (rightN (barep ks) n && okK (ky (barep ks) n) && (decide (n = 0) || decide ((ky (barep ks) (n - 1)).t < (ky (barep ks) n).t))) = _
          rw [HST.out.1, ky_barep (by have := HN.out; omega), ky_barep (by have := HN.out; omega), ex, hkk, show n - 1 = m by omega, decide_eq_false hz]
          show (true && mv && (false || decide ((pk ks m).t < x.t))) = _
          rw [eT, ← hup2]
          by_cases h : x.t ≤ T
          · rw [decide_eq_true h, decide_eq_false (by omega)]; simp
          · rw [decide_eq_false h, decide_eq_true (by omega)]; simp
        have AN : allN ks (n + 1) = (!decide (x.ps.length = 0) && ok && f) := by
          show (allN ks n && (!decide ((pk ks n).ps.length = 0) && okP (pk ks n).cl (pk ks n).ps && fits (pk ks 0).cl (pk ks 0).ps (pk ks n).cl (pk ks n).ps)) = _
          rw [HST.out.2, ex, ey, hok, hf]
          simp
        obtain ⟨xt, xcl, xv, xps, xh, xa, xb, xcc, xd⟩ := x
        obtain ⟨yt, ycl, yv, yps, yh, ya, yb, ycc, yd⟩ := y
        obtain ⟨xo, xc, ex1⟩ := hx
        obtain ⟨yo, yn, yc, ey1⟩ := h0
        simp only at ex1 ey1 AN hup2
        subst ex1 ey1
        obtain ⟨L, hL⟩ : ∃ L, xps.length = L := ⟨_, rfl⟩
        obtain ⟨em, hem⟩ : ∃ b, decide (L = 0) = b := ⟨_, rfl⟩
        have nz1 : ((L : Int) == 0) = em := by rw [← hem]; exact int_zero L
        simp only [hL] at c2 RT FT
        rw [hL, hem] at AN
        have EG : Hid ((mv && !u && !em && ok && f) = false → K = false) := Lib.hid (fun h => by
          rw [EK.out]
          refine key_off (n := n) (by omega) ?_
          rw [RN, AN]
          revert h; cases mv <;> cases u <;> cases em <;> cases ok <;> cases f <;> simp)
        have NX : Hid ((mv && !u && !em && ok && f) = true → rightN (barep ks) (n + 1) = true ∧ allN ks (n + 1) = true) := Lib.hid (fun h => by
          rw [RN, AN]
          revert h; cases mv <;> cases u <;> cases em <;> cases ok <;> cases f <;> simp)
        clear r' rr r0 l0 hb hok hf hkk hmv HS ex ey eT hm RN AN hem hL
        cases mv
        case false =>
         have EF := Lib.hid (EG.out (by simp))
         clear EG NX
         go_wp2_with fail
         refine wp_region_class (C := fun w' => ∃ z : Later wr, w' = z.to) (by kernel_rfl) (by kernel_rfl) ⟨⟨_, below_drew (Below.refl _ _)⟩, rfl⟩ ?_
         repeat (go_big_quiet_step (first | (go_at_call 58; exact Later.calls (MV.out _)) | (go_at_call 60; exact Later.calls (RT.out _)) | (go_at_call 61; exact Later.calls (FT.out _))))
         refine wpQuiet_nil ?_
         rintro _ ⟨z, rfl⟩
         go_wp2
         go_ret
         exact ⟨by rw [EF.out]; rfl, by rw [HB.out]; exact HBD.out.trans (z.below.mono sz.out)⟩
        case true =>
         cases u
         case true =>
          have EF := Lib.hid (EG.out (by simp))
          clear EG NX
          go_wp2_with fail
          refine wp_region_class (C := fun w' => ∃ z : Later wr, w' = z.to) (by kernel_rfl) (by kernel_rfl) ⟨⟨_, below_drew (Below.refl _ _)⟩, rfl⟩ ?_
          repeat (go_big_quiet_step (first | (go_at_call 58; exact Later.calls (MV.out _)) | (go_at_call 60; exact Later.calls (RT.out _)) | (go_at_call 61; exact Later.calls (FT.out _))))
          refine wpQuiet_nil ?_
          rintro _ ⟨z, rfl⟩
          go_wp2
          go_ret
          exact ⟨by rw [EF.out]; rfl, by rw [HB.out]; exact HBD.out.trans (z.below.mono sz.out)⟩
         case false =>
          cases ok
          case false =>
           have EF := Lib.hid (EG.out (by simp))
           clear EG NX
           go_wp2_with fail
           refine wp_region_class (C := fun w' => ∃ z : Later wr, w' = z.to) (by kernel_rfl) (by kernel_rfl) ⟨⟨_, below_drew (Below.refl _ _)⟩, rfl⟩ ?_
           repeat (go_big_quiet_step (first | (go_at_call 58; exact Later.calls (MV.out _)) | (go_at_call 60; exact Later.calls (RT.out _)) | (go_at_call 61; exact Later.calls (FT.out _))))
           refine wpQuiet_nil ?_
           rintro _ ⟨z, rfl⟩
           go_wp2
           go_ret
           exact ⟨by rw [EF.out]; rfl, by rw [HB.out]; exact HBD.out.trans (z.below.mono sz.out)⟩
          case true =>
           cases em
           case true =>
            have EF := Lib.hid (EG.out (by simp))
            clear EG NX
            go_wp2_with fail
            refine wp_region_class (C := fun w' => ∃ z : Later wr, w' = z.to) (by kernel_rfl) (by kernel_rfl) ⟨⟨_, below_drew (Below.refl _ _)⟩, rfl⟩ ?_
            repeat (go_big_quiet_step (first | (go_at_call 58; exact Later.calls (MV.out _)) | (go_at_call 60; exact Later.calls (RT.out _)) | (go_at_call 61; exact Later.calls (FT.out _))))
            refine wpQuiet_nil ?_
            rintro _ ⟨z, rfl⟩
            go_wp2
            go_ret
            exact ⟨by rw [EF.out]; rfl, by rw [HB.out]; exact HBD.out.trans (z.below.mono sz.out)⟩
           case false =>
            cases f
            case false =>
             have EF := Lib.hid (EG.out (by simp))
             clear EG NX
             go_wp2_with fail
             refine wp_region_class (C := fun w' => ∃ z : Later wr, w' = z.to) (by kernel_rfl) (by kernel_rfl) ⟨⟨_, below_drew (Below.refl _ _)⟩, rfl⟩ ?_
             repeat (go_big_quiet_step (first | (go_at_call 58; exact Later.calls (MV.out _)) | (go_at_call 60; exact Later.calls (RT.out _)) | (go_at_call 61; exact Later.calls (FT.out _))))
             refine wpQuiet_nil ?_
             rintro _ ⟨z, rfl⟩
             go_wp2
             go_ret
             exact ⟨by rw [EF.out]; rfl, by rw [HB.out]; exact HBD.out.trans (z.below.mono sz.out)⟩
            case true =>
             have NG := Lib.hid (NX.out rfl)
             clear EG NX
             go_wp2_with fail
             refine wp_region_class (C := fun w' => ∃ z : Later wr, w' = z.to) (by kernel_rfl) (by kernel_rfl) ⟨⟨_, below_drew (Below.refl _ _)⟩, rfl⟩ ?_
             repeat (go_big_quiet_step (first | (go_at_call 58; exact Later.calls (MV.out _)) | (go_at_call 60; exact Later.calls (RT.out _)) | (go_at_call 61; exact Later.calls (FT.out _))))
             refine wpQuiet_nil ?_
             rintro _ ⟨z, rfl⟩
             have Z := Lib.hid (HBD.out.trans (z.below.mono sz.out))
             obtain ⟨Y, hY⟩ : ∃ Y, z.to = Y := ⟨_, rfl⟩
             rw [hY] at Z ⊢
             clear hY c0 c1 c2 c3 c4 c5 c6 c7
             try clear b1 b2
             try clear d0
             go_wp2
             go_roundw
             case rel => exact ⟨n + 1, by omega, by go_num, NG.out, Z.out⟩
             case measure => simp [intOf]; omega
    · obtain rfl : n = N := by omega
      have o1 : (n : Int) ≤ n := by omega
      clear hb
      have EF : Hid (K = decide (n ≤ 32)) := Lib.hid (by rw [EK.out, HST.out.1, HST.out.2]; simp)
      by_cases h32 : n ≤ 32
      · rw [decide_eq_true h32] at EF
        have o2 : (n : Int) ≤ 32 := by omega
        go_wp2
        go_ret
        exact ⟨by rw [EF.out]; simp, by rw [HB.out]; exact HBD.out⟩
      · rw [decide_eq_false h32] at EF
        have o2 : (32 : Int) < n := by omega
        go_wp2
        go_ret
        exact ⟨by rw [EF.out]; simp; omega, by rw [HB.out]; exact HBD.out⟩

end Go.Proofs.YtglbfpjjnboeaaaGreat

namespace Go.Proofs.YtglbfpjjnboeaaaGreat
open Go.RowKit
open M

attribute [local go_sem] alloc_drewN setCell_drewN shape_drewN

theorem tdiv_one (Q : Int) : (Q.tmod 65536 < 0 ∧ Q.tdiv 65536 - 1 = Q / 65536) ∨ (0 ≤ Q.tmod 65536 ∧ Q.tdiv 65536 = Q / 65536) := by
  rcases Int.le_total 0 Q with h | h
  · exact Or.inr ⟨Int.tmod_nonneg _ h, Int.tdiv_eq_ediv_of_nonneg h⟩
  · have e1 : Q.tdiv 65536 = -((-Q) / 65536) := by rw [← Int.tdiv_eq_ediv_of_nonneg (by omega), Int.neg_tdiv, Int.neg_neg]
    have e2 : Q.tmod 65536 = -((-Q) % 65536) := by rw [← Int.tmod_eq_emod_of_nonneg (by omega), Int.neg_tmod, Int.neg_neg]
    rw [e1, e2]
    omega
/-- What the document's own reckoning of one part comes to. -/
theorem part_facts {a b P : Int} (a0 : 0 ≤ a) (a1 : a ≤ 255) (b0 : 0 ≤ b) (b1 : b ≤ 255) (p0 : -1099511627776 ≤ P) (p1 : P ≤ 1099511627776) {C : Int} (hC : mixh a b P = C) :
    ∃ Q T R : Int, (b - a) * P = Q ∧ -280375465082880 ≤ Q ∧ Q ≤ 280375465082880 ∧ Q.tdiv 65536 = T ∧ Q.tmod 65536 = R ∧ -4278190081 ≤ T ∧ T ≤ 4278190081 ∧ -65536 < R ∧ R < 65536 ∧
      ((R < 0 ∧ clamp (a + (T - 1)) 0 255 = C) ∨ (0 ≤ R ∧ clamp (a + T) 0 255 = C)) := by
  obtain ⟨q0, q1⟩ := prod_bound (x := b - a) (y := P) (b := 255) (c := 1099511627776) (by omega) (by omega) (by omega) (by omega)
  unfold mixh at hC
  obtain ⟨Q, hQ⟩ : ∃ Q, (b - a) * P = Q := ⟨_, rfl⟩
  rw [hQ] at hC q0 q1
  have hd := tdiv_one Q
  have hm : -65536 < Q.tmod 65536 ∧ Q.tmod 65536 < 65536 := by
    have a := Int.tmod_lt_of_pos Q (show (0 : Int) < 65536 by decide)
    have b := Int.tmod_lt_of_pos (-Q) (show (0 : Int) < 65536 by decide)
    rw [Int.neg_tmod] at b
    omega
  refine ⟨Q, _, _, hQ, by omega, by omega, rfl, rfl, by omega, by omega, hm.1, hm.2, ?_⟩
  rcases hd with ⟨h1, h2⟩ | ⟨h1, h2⟩
  · exact Or.inl ⟨h1, by rw [h2]; exact hC⟩
  · exact Or.inr ⟨h1, by rw [h2]; exact hC⟩


end Go.Proofs.YtglbfpjjnboeaaaGreat

namespace Go.Proofs.YtglbfpjjnboeaaaGreat
open Go.RowKit
open M

theorem r5_colors0 (ao : Option Addr) (cap : Nat) (w : World) :
    Calls Tryz.prog 34 #[.slice ao 0 cap] w fun e w' => e = .returned (.bool true) ∧ Below w.heap.size w w' := by
  go_enter Tryz.func34, Tryz.ntmps34
  go_wp2
  go_loop [3] (fun i => i = .int .i64 0) (fun _ => 0)
  case atStart => rfl
  case round =>
    subst hrel
    go_wp2
    go_ret
    exact ⟨rfl, Below.refl _ _⟩

set_option maxHeartbeats 2000000 in
theorem r5_colors1 (g o cap : Nat) (ks : List Ck) (w : World) (hr : Crow w g o ks) (hn : 0 < ks.length) :
    Calls Tryz.prog 34 #[.slice (some ⟨g, o, none⟩) ks.length cap] w fun e w' => e = .returned (.bool (right (bares ks))) ∧ Below w.heap.size w w' := by
  have hf := hr.few
  have hg := hr.lt hn
  have HR := Lib.hid hr
  clear hr
  obtain ⟨R, hR⟩ : ∃ R, right (bares ks) = R := ⟨_, rfl⟩
  rw [hR]
  have RR := Lib.hid hR
  clear hR
  go_enter Tryz.func34, Tryz.ntmps34
  go_wp2
  go_loopw [3] (fun i wr => ∃ n : Nat, n ≤ ks.length ∧ i = .int .i64 n ∧ rightN (bares ks) n = true ∧ Below w.heap.size w wr) (fun i _ => ks.length - (intOf i).toNat)
  case atStart => exact ⟨0, by omega, rfl, rfl, Below.refl _ _⟩
  case round =>
    obtain ⟨n, hn', rfl, he, hb⟩ := hrel
    have HE := Lib.hid he
    have HB := Lib.hid hb
    clear he hb
    by_cases hlt : n < ks.length
    · have hr' := fun (z : Later wr) => (HR.out.below HB.out hg).later hn z
      have c0 := fun z => (hr' z).c0 n hlt
      have c5 := fun z => (hr' z).c5 n hlt
      have c6 := fun z => (hr' z).c6 n hlt
      have c7 := fun z => (hr' z).c7 n hlt
      have c8 := fun z => (hr' z).c8 n hlt
      have c9 := fun z => (hr' z).c9 n hlt
      have o1 : (n : Int) < ks.length := by omega
      obtain ⟨p, hp⟩ : ∃ p, (okIn (ck ks n).t 1073741824 && okHow (ck ks n).h (ck ks n).a (ck ks n).b (ck ks n).c (ck ks n).d) = p := ⟨_, rfl⟩
      have hk : okK (ky (bares ks) n) = p := by
        rw [ky_bares, ← hp]; unfold okK
        simp only [bare]
        rw [show okIn 0 67108864 = true from rfl, Bool.and_true]
      have m1 := fun (z : Later wr) => r5_moves (ck ks n).t (ck ks n).h (ck ks n).a (ck ks n).b (ck ks n).c (ck ks n).d z.to
      rw [hp] at m1
      have M1 := Lib.hid m1
      have HK := Lib.hid hk
      clear hp hk m1
      cases p with
      | false =>
        have er : R = false := by
          rw [← RR.out]; unfold right
          rw [bares_length, rightN_off (m := n + 1) (by omega) (by simp [rightN, HK.out])]; simp
        subst er
        go_wp2_with fail
        refine wp_region_class (C := fun w' => ∃ z : Later wr, w' = z.to) (by kernel_rfl) (by kernel_rfl) ⟨⟨_, below_drew (Below.refl _ _)⟩, rfl⟩ ?_
        repeat (go_big_quiet_step (first | (go_at_call 58; exact Later.calls (M1.out _))))
        refine wpQuiet_nil ?_
        rintro _ ⟨z, rfl⟩
        go_wp2
        go_ret
        exact ⟨rfl, HB.out.trans (z.below.mono HB.out.size)⟩
      | true =>
        by_cases h0 : n = 0
        · subst h0
          clear hr'
          simp only [Nat.zero_mul, Nat.add_zero] at c0 c5 c6 c7 c8 c9
          have o0 : (0 : Int) < ks.length := by omega
          clear o1
          go_wp2_with fail
          refine wp_region_class (C := fun w' => ∃ z : Later wr, w' = z.to) (by kernel_rfl) (by kernel_rfl) ⟨⟨_, below_drew (Below.refl _ _)⟩, rfl⟩ ?_
          repeat (go_big_quiet_step (first | (go_at_call 58; exact Later.calls (M1.out _))))
          refine wpQuiet_nil ?_
          rintro _ ⟨z, rfl⟩
          go_wp2
          go_roundw
          case rel => exact ⟨1, by omega, by go_num, by simp [rightN, HK.out], HB.out.trans (z.below.mono HB.out.size)⟩
          case measure => simp [intOf]; omega
        · obtain ⟨m, hm⟩ : ∃ m : Nat, n = m + 1 := ⟨n - 1, by omega⟩
          have e1 : (n : Int) - 1 = (m : Int) := by omega
          have o2 : (m : Int) < ks.length := by omega
          have o3 : 0 < n := by omega
          have d0 := fun z => (hr' z).c0 m (by omega)
          have hx : rightN (bares ks) (n + 1) = decide ((ck ks m).t < (ck ks n).t) := by
            unfold rightN; rw [HE.out, HK.out, hm, Nat.add_sub_cancel, ky_bares, ky_bares]; simp [bare]
            exact decide_eq_decide.2 Iff.rfl
          have HX := Lib.hid hx
          clear hm hx hr'
          by_cases hc : (ck ks m).t < (ck ks n).t
          · go_wp2_with fail
            refine wp_region_class (C := fun w' => ∃ z : Later wr, w' = z.to) (by kernel_rfl) (by kernel_rfl) ⟨⟨_, below_drew (Below.refl _ _)⟩, rfl⟩ ?_
            repeat (go_big_quiet_step (first | (go_at_call 58; exact Later.calls (M1.out _))))
            refine wpQuiet_nil ?_
            rintro _ ⟨z, rfl⟩
            go_wp2
            go_roundw
            case rel => exact ⟨n + 1, by omega, by go_num, by rw [HX.out]; simpa using hc, HB.out.trans (z.below.mono HB.out.size)⟩
            case measure => simp [intOf]; omega
          · have er : R = false := by
              rw [← RR.out]; unfold right
              rw [bares_length, rightN_off (m := n + 1) (by omega) (by rw [HX.out]; simpa using hc)]; simp
            subst er
            go_wp2_with fail
            refine wp_region_class (C := fun w' => ∃ z : Later wr, w' = z.to) (by kernel_rfl) (by kernel_rfl) ⟨⟨_, below_drew (Below.refl _ _)⟩, rfl⟩ ?_
            repeat (go_big_quiet_step (first | (go_at_call 58; exact Later.calls (M1.out _))))
            refine wpQuiet_nil ?_
            rintro _ ⟨z, rfl⟩
            go_wp2
            go_ret
            exact ⟨rfl, HB.out.trans (z.below.mono HB.out.size)⟩
    · have en : n = ks.length := by omega
      have er : R = decide ((ks.length : Int) ≤ 32) := by
        have h1 : rightN (bares ks) ks.length = true := en ▸ HE.out
        rw [← RR.out]; unfold right; rw [bares_length, h1, Bool.and_true]
        exact decide_eq_decide.2 (by omega)
      subst er
      clear RR HE
      subst en
      go_wp2
      all_goals
        go_ret
        exact ⟨by simp [*], HB.out⟩
theorem r5_colors {v : Value} {ks : List Ck} {w : World} (h : Csl w v ks) :
    Calls Tryz.prog 34 #[v] w fun e w' => e = .returned (.bool (right (bares ks))) ∧ Below w.heap.size w w' := by
  rcases h with ⟨rfl, ao, cap, rfl⟩ | ⟨hn, g, o, cap, rfl, hr⟩
  · exact r5_colors0 ao cap w
  · exact r5_colors1 g o cap ks w hr hn

end Go.Proofs.YtglbfpjjnboeaaaGreat

namespace Go.Proofs.YtglbfpjjnboeaaaGreat
open Go Go.RowKit
open M

theorem rh_near (a : Int) (w : World) : Calls Tryz.prog 62 #[.int .i64 a] w fun e w' => e = .returned (.bool (nearN a)) ∧ Below w.heap.size w w' := by
  obtain ⟨K, hK⟩ : ∃ K, nearN a = K := ⟨_, rfl⟩
  have EK := Lib.hid hK
  rw [hK]
  clear hK
  go_enter Tryz.func62, Tryz.ntmps62
  go_wp2
  all_goals
    go_ret
    refine ⟨?_, Below.refl _ _⟩
    rw [← EK.out]
    clear EK
    unfold nearN
    first | (simp_all; done) | (simp_all; omega; done)
set_option maxRecDepth 100000 in
set_option maxHeartbeats 4000000 in
theorem rh_paint (k : Int) (a b : Cr) (p q : Pt) (r : Int) (w : World) : Calls Tryz.prog 33 #[.agg (paC k a b p q r)] w fun e w' => e = .returned (.bool (decide (k = 0 ∨ k = 1 ∨ k = 2) && (nearN p.x && nearN p.y && nearN q.x && nearN q.y && nearN r))) ∧ Below w.heap.size w w' := by
  obtain ⟨px, py⟩ := p
  obtain ⟨qx, qy⟩ := q
  simp only
  obtain ⟨n0, h0⟩ : ∃ x, nearN px = x := ⟨_, rfl⟩
  have N0 : Hid (∀ w, Calls Tryz.prog 62 #[.int .i64 px] w fun e w' => e = .returned (.bool n0) ∧ Below w.heap.size w w') := Lib.hid (fun w => by rw [← h0]; exact rh_near _ w)
  obtain ⟨n1, h1⟩ : ∃ x, nearN py = x := ⟨_, rfl⟩
  have N1 : Hid (∀ w, Calls Tryz.prog 62 #[.int .i64 py] w fun e w' => e = .returned (.bool n1) ∧ Below w.heap.size w w') := Lib.hid (fun w => by rw [← h1]; exact rh_near _ w)
  obtain ⟨n2, h2⟩ : ∃ x, nearN qx = x := ⟨_, rfl⟩
  have N2 : Hid (∀ w, Calls Tryz.prog 62 #[.int .i64 qx] w fun e w' => e = .returned (.bool n2) ∧ Below w.heap.size w w') := Lib.hid (fun w => by rw [← h2]; exact rh_near _ w)
  obtain ⟨n3, h3⟩ : ∃ x, nearN qy = x := ⟨_, rfl⟩
  have N3 : Hid (∀ w, Calls Tryz.prog 62 #[.int .i64 qy] w fun e w' => e = .returned (.bool n3) ∧ Below w.heap.size w w') := Lib.hid (fun w => by rw [← h3]; exact rh_near _ w)
  obtain ⟨n4, h4⟩ : ∃ x, nearN r = x := ⟨_, rfl⟩
  have N4 : Hid (∀ w, Calls Tryz.prog 62 #[.int .i64 r] w fun e w' => e = .returned (.bool n4) ∧ Below w.heap.size w w') := Lib.hid (fun w => by rw [← h4]; exact rh_near _ w)
  rw [h0, h1, h2, h3, h4]
  clear h0 h1 h2 h3 h4
  obtain ⟨B, hB⟩ : ∃ B, w.heap.size = B := ⟨_, rfl⟩
  by_cases hk : k = 0 ∨ k = 1 ∨ k = 2
  · rw [decide_eq_true hk]
    obtain ⟨W, hW⟩ : ∃ W, w.alloc (.cells (paC k a b ⟨px, py⟩ ⟨qx, qy⟩ r) 31) = W := ⟨_, rfl⟩
    have hkk : Has W B (paC k a b ⟨px, py⟩ ⟨qx, qy⟩ r) 31 := by rw [← hW]; exact has_new hB
    have hb : Below B w W := by rw [← hW]; exact (Below.refl _ _).alloc (by omega) _
    have HF := Lib.hid (show ∀ w', Below W.heap.size W w' → ∀ j u, (paC k a b ⟨px, py⟩ ⟨qx, qy⟩ r)[j]? = some u → w'.cell? ⟨B, j, none⟩ = some u from fun w' h' j u hu => (hkk.below h' hkk.lt).cell j u hu)
    have R0 : Hid (Below W.heap.size W W) := Lib.hid (Below.refl _ _)
    have FIN := Lib.hid (show ∀ w', Below W.heap.size W w' → Below w.heap.size w w' from fun w' h' => by rw [hB]; exact hb.trans (h'.mono (by have := hkk.lt; omega)))
    have HW := Lib.hid hW
    clear hkk hb hW
    rcases hk with rfl | rfl | rfl
    all_goals
      go_enter Tryz.func33, Tryz.ntmps33
      go_wp2_with fail
      rw [HW.out]
      clear hB
      refine (N0.out _).mono ?_
      rintro e w1 ⟨rfl, q1⟩
      have R1 := Lib.hid (R0.out.trans (q1.mono R0.out.size))
      clear q1
      cases n0
      · go_wp2
        go_ret
        exact ⟨rfl, FIN.out _ R1.out⟩
      have g10 := HF.out w1 R1.out 10 _ rfl
      go_wp2_with fail
      refine (N1.out _).mono ?_
      rintro e w2 ⟨rfl, q2⟩
      have R2 := Lib.hid (R1.out.trans (q2.mono R1.out.size))
      clear q2
      cases n1
      · go_wp2
        go_ret
        exact ⟨rfl, FIN.out _ R2.out⟩
      have g11 := HF.out w2 R2.out 11 _ rfl
      go_wp2_with fail
      refine (N2.out _).mono ?_
      rintro e w3 ⟨rfl, q3⟩
      have R3 := Lib.hid (R2.out.trans (q3.mono R2.out.size))
      clear q3
      cases n2
      · go_wp2
        go_ret
        exact ⟨rfl, FIN.out _ R3.out⟩
      have g12 := HF.out w3 R3.out 12 _ rfl
      go_wp2_with fail
      refine (N3.out _).mono ?_
      rintro e w4 ⟨rfl, q4⟩
      have R4 := Lib.hid (R3.out.trans (q4.mono R3.out.size))
      clear q4
      cases n3
      · go_wp2
        go_ret
        exact ⟨rfl, FIN.out _ R4.out⟩
      have g13 := HF.out w4 R4.out 13 _ rfl
      go_wp2_with fail
      refine (N4.out _).mono ?_
      rintro e w5 ⟨rfl, q5⟩
      have R5 := Lib.hid (R4.out.trans (q5.mono R4.out.size))
      clear q5
      go_wp2
      go_ret
      exact ⟨by simp, FIN.out _ R5.out⟩
  · rw [decide_eq_false hk]
    clear hB
    rcases (show k < 0 ∨ (0 ≤ k ∧ 2 < k) by omega) with h0 | ⟨h0, h1⟩
    all_goals
      go_enter Tryz.func33, Tryz.ntmps33
      go_wp2
      go_ret
      exact ⟨by first | (simp; done) | (simp; omega), (Below.refl _ _).alloc (Nat.le_refl _) _⟩

/-- The two tests of a shape's form. -/
def form1 (s : Shp) : Bool := decide (s.form < 0) || decide (3 < s.form) || (decide (s.form = 2) && (decide (s.n < 2) || decide (16 < s.n))) || (!decide (s.form = 2) && !decide (s.n = 0))
def form2 (s : Shp) : Bool := (decide (s.form = 3) && decide (0 < s.W.length + s.H.length)) || (!decide (s.form = 3) && decide (0 < s.P.length))
theorem form_two (s : Shp) : formOk s = (!form1 s && !form2 s) := by
  obtain ⟨form, n, W, vW, H, vH, P, vP, fill, rule, kind, a, b, p, q, r, C, vC, stroke, Wd, vWd, line, cap, D, vD, F, vF, T, vT⟩ := s
  unfold formOk form1 form2
  simp only
  obtain ⟨lw, hw⟩ : ∃ k, W.length = k := ⟨_, rfl⟩
  obtain ⟨lh, hh⟩ : ∃ k, H.length = k := ⟨_, rfl⟩
  obtain ⟨lp, hp⟩ : ∃ k, P.length = k := ⟨_, rfl⟩
  rw [hw, hh, hp]
  clear hw hh hp
  rcases (show form < 0 ∨ form = 0 ∨ form = 1 ∨ form = 2 ∨ form = 3 ∨ 3 < form by omega) with h | rfl | rfl | rfl | rfl | h
  · rw [if_neg (by omega), if_neg (by omega), if_neg (by omega), decide_eq_true h]; simp
  · cases lp <;> simp
  · cases lp <;> simp
  · by_cases h1 : n < 2 <;> by_cases h2 : 16 < n <;> cases lp <;> simp [h1, h2] <;> omega
  · cases lw <;> cases lh <;> simp <;> omega
  · rw [if_neg (by omega), if_neg (by omega), if_neg (by omega), decide_eq_true h]; simp

set_option maxRecDepth 100000 in
set_option maxHeartbeats 4000000 in
theorem rh_right {w : World} {s : Shp} (h : ShIn w s) : Calls Tryz.prog 10 #[.agg (shC s)] w fun e w' => e = .returned (.bool (okS s)) ∧ Below w.heap.size w w' := by
  obtain ⟨lW, aW, cW, eW⟩ := h.W.len
  obtain ⟨lH, aH, cH, eH⟩ := h.H.len
  obtain ⟨lP, aP, cP, eP⟩ := h.P.len
  obtain ⟨B, hB⟩ : ∃ B, w.heap.size = B := ⟨_, rfl⟩
  obtain ⟨W, hW⟩ : ∃ W, w.alloc (.cells (shC s) 34) = W := ⟨_, rfl⟩
  obtain ⟨hi, hk, hb⟩ := h.start hB hW
  have HBB := Lib.hid hB
  have HW := Lib.hid hW
  obtain ⟨x, hx⟩ : ∃ x, right s.W = x := ⟨_, rfl⟩
  obtain ⟨y, hy⟩ : ∃ x, right s.H = x := ⟨_, rfl⟩
  obtain ⟨z, hz⟩ : ∃ x, keysOk s.P = x := ⟨_, rfl⟩
  obtain ⟨pa, hpa⟩ : ∃ x, paintOk s = x := ⟨_, rfl⟩
  obtain ⟨cc, hcc⟩ : ∃ x, right (bares s.C) = x := ⟨_, rfl⟩
  obtain ⟨x1, hx1⟩ : ∃ x, right s.Wd = x := ⟨_, rfl⟩
  obtain ⟨x2, hx2⟩ : ∃ x, right s.F = x := ⟨_, rfl⟩
  obtain ⟨x3, hx3⟩ : ∃ x, right s.T = x := ⟨_, rfl⟩
  obtain ⟨x4, hx4⟩ : ∃ x, okD s.D = x := ⟨_, rfl⟩
  have C1 : Hid (∀ w', Below W.heap.size W w' → Calls Tryz.prog 31 #[.slice aW s.W.length cW] w' fun e w'' => e = .returned (.bool x) ∧ Below w'.heap.size w' w'') := Lib.hid (fun w' h' => by rw [← hx]; rw [← eW]; exact r5_right (hi.below h').W)
  have C2 : Hid (∀ w', Below W.heap.size W w' → Calls Tryz.prog 31 #[.slice aH s.H.length cH] w' fun e w'' => e = .returned (.bool y) ∧ Below w'.heap.size w' w'') := Lib.hid (fun w' h' => by rw [← hy]; rw [← eH]; exact r5_right (hi.below h').H)
  have C3 : Hid (∀ w', Below W.heap.size W w' → Calls Tryz.prog 32 #[.slice aP s.P.length cP] w' fun e w'' => e = .returned (.bool z) ∧ Below w'.heap.size w' w'') := Lib.hid (fun w' h' => by rw [← hz]; rw [← eP]; exact r8_keysG (hi.below h').P)
  have C4 : Hid (∀ w', Below W.heap.size W w' → Calls Tryz.prog 33 #[.agg (paC s.kind s.a s.b s.p s.q s.r)] w' fun e w'' => e = .returned (.bool pa) ∧ Below w'.heap.size w' w'') := Lib.hid (fun w' h' => by rw [← hpa]; exact rh_paint s.kind s.a s.b s.p s.q s.r w')
  have C5 : Hid (∀ w', Below W.heap.size W w' → Calls Tryz.prog 34 #[s.vC] w' fun e w'' => e = .returned (.bool cc) ∧ Below w'.heap.size w' w'') := Lib.hid (fun w' h' => by rw [← hcc]; exact r5_colors (hi.below h').C)
  have C6 : Hid (∀ w', Below W.heap.size W w' → Calls Tryz.prog 31 #[s.vWd] w' fun e w'' => e = .returned (.bool x1) ∧ Below w'.heap.size w' w'') := Lib.hid (fun w' h' => by rw [← hx1]; exact r5_right (hi.below h').Wd)
  have C7 : Hid (∀ w', Below W.heap.size W w' → Calls Tryz.prog 31 #[s.vF] w' fun e w'' => e = .returned (.bool x2) ∧ Below w'.heap.size w' w'') := Lib.hid (fun w' h' => by rw [← hx2]; exact r5_right (hi.below h').F)
  have C8 : Hid (∀ w', Below W.heap.size W w' → Calls Tryz.prog 31 #[s.vT] w' fun e w'' => e = .returned (.bool x3) ∧ Below w'.heap.size w' w'') := Lib.hid (fun w' h' => by rw [← hx3]; exact r5_right (hi.below h').T)
  have C9 : Hid (∀ w', Below W.heap.size W w' → Calls Tryz.prog 35 #[s.vD] w' fun e w'' => e = .returned (.bool x4) ∧ Below w'.heap.size w' w'') := Lib.hid (fun w' h' => by rw [← hx4]; exact below_of (r9_dashes (hi.below h').D))
  obtain ⟨fo, hfo⟩ : ∃ x, form1 s = x := ⟨_, rfl⟩
  obtain ⟨fp, hfp⟩ : ∃ x, form2 s = x := ⟨_, rfl⟩
  obtain ⟨ru, hru⟩ : ∃ x, decide (s.rule = 0 ∨ s.rule = 1) = x := ⟨_, rfl⟩
  obtain ⟨cp, hcp⟩ : ∃ x, decide (s.cap = 0 ∨ s.cap = 1) = x := ⟨_, rfl⟩
  have E : okS s = (!fo && !fp && (x && y && z) && (ru && pa && cc) && (x1 && x2 && x3 && cp && x4)) := by
    unfold okS lineOk fillOk drawOk
    rw [form_two, hfo, hfp, hx, hy, hz, hru, hpa, hcc, hx1, hx2, hx3, hcp, hx4]
  rw [E]
  have FO := Lib.hid hfo
  have FP := Lib.hid hfp
  have RU := Lib.hid hru
  have CP := Lib.hid hcp
  have HF := Lib.hid (show ∀ w', Below W.heap.size W w' → ∀ j u, (shC s)[j]? = some u → w'.cell? ⟨B, j, none⟩ = some u from fun w' h' j u hu => (hk.below h' hk.lt).cell j u hu)
  have R0 : Hid (Below W.heap.size W W) := Lib.hid (Below.refl _ _)
  have FIN := Lib.hid (show ∀ w', Below W.heap.size W w' → Below w.heap.size w w' from fun w' h' => by rw [hB]; exact hb.trans (h'.mono (by have := hk.lt; omega)))
  have EW := Lib.hid eW
  have EH := Lib.hid eH
  have EP := Lib.hid eP
  have lW' : Hid ((s.W.length : Int) ≤ 8796093022208) := Lib.hid (by omega)
  clear hi hk hb hW hx hy hz hpa hcc hx1 hx2 hx3 hx4 hfo hfp hru hcp E h eW eH eP
  go_enter Tryz.func10, Tryz.ntmps10
  go_upto_region 1 with fail
  rw [HW.out]
  clear hB
  have f0 := HF.out W R0.out 0 _ rfl
  have f1 := HF.out W R0.out 1 _ rfl
  go_cut [35] (fun v wx => v = .bool fo ∧ wx = W)
  case first =>
    go_wp2_with fail
    all_goals
      go_meet
      refine ⟨?_, rfl⟩
      rw [← FO.out]
      clear FO
      unfold form1
      first
        | (simp_all; done)
        | (simp_all; omega; done)
        | (rcases (show s.form < 0 ∨ s.form = 0 ∨ s.form = 1 ∨ s.form = 2 ∨ s.form = 3 ∨ 3 < s.form by omega) with h | h | h | h | h | h <;> by_cases hn : s.n = 0 <;> by_cases h2 : s.n < 2 <;> by_cases h16 : 16 < s.n <;> first | (simp_all; done) | (simp_all; omega; done) | (exfalso; omega))
  case rest =>
    obtain ⟨rfl, hwc⟩ := hcut
    rw [hwc]
    clear f0 f1 FO hwc
    cases fo
    case true =>
      go_wp2
      go_ret
      exact ⟨rfl, FIN.out _ R0.out⟩
    case false =>
      go_upto_region 3 with fail
      go_cut [77] (fun v wx => v = .bool (!x || !y || !z || fp) ∧ Below W.heap.size W wx)
      case first =>
        have eW := EW.out
        have eH := EH.out
        have eP := EP.out
        have f2 := HF.out W R0.out 2 _ rfl
        go_wp2_with fail
        refine (C1.out _ R0.out).mono ?_
        rintro e w1 ⟨rfl, q1⟩
        have R1 := Lib.hid (R0.out.trans (q1.mono R0.out.size))
        clear q1 f2
        cases x
        case false =>
          go_wp2_with fail
          go_meet
          exact ⟨rfl, R1.out⟩
        case true =>
          have f3 := HF.out w1 R1.out 3 _ rfl
          go_wp2_with fail
          refine (C2.out _ R1.out).mono ?_
          rintro e w2 ⟨rfl, q2⟩
          have R2 := Lib.hid (R1.out.trans (q2.mono R1.out.size))
          clear q2 f3
          cases y
          case false =>
            go_wp2_with fail
            go_meet
            exact ⟨rfl, R2.out⟩
          case true =>
            have f4 := HF.out w2 R2.out 4 _ rfl
            go_wp2_with fail
            refine (C3.out _ R2.out).mono ?_
            rintro e w3 ⟨rfl, q3⟩
            have R3 := Lib.hid (R2.out.trans (q3.mono R2.out.size))
            clear q3 f4
            cases z
            case false =>
              go_wp2_with fail
              go_meet
              exact ⟨rfl, R3.out⟩
            case true =>
              have f0 := HF.out w3 R3.out 0 _ rfl
              have f2 := HF.out w3 R3.out 2 _ rfl
              have f3 := HF.out w3 R3.out 3 _ rfl
              have f4 := HF.out w3 R3.out 4 _ rfl
              go_wp2_with fail
              all_goals
                go_meet
                refine ⟨?_, R3.out⟩
                rw [← FP.out]
                clear FP
                unfold form2
                clear eW eH eP
                first
                  | (simp_all; done)
                  | (simp_all; omega; done)
                  | (rcases (show s.form = 3 ∨ ¬ s.form = 3 by omega) with h | h <;> simp_all <;> omega)
      case rest =>
        obtain ⟨rfl, hbw⟩ := hcut
        have RB := Lib.hid hbw
        clear hbw
        obtain ⟨t, ht⟩ : ∃ t, (!x || !y || !z || fp) = t := ⟨_, rfl⟩
        have HT := Lib.hid ht
        rw [ht]
        clear ht
        cases t
        case true =>
          have e0 : Hid ((!false && !fp && (x && y && z) && (ru && pa && cc) && (x1 && x2 && x3 && cp && x4)) = false) := Lib.hid (by have := HT.out; revert this; cases x <;> cases y <;> cases z <;> cases fp <;> simp)
          go_wp2
          go_ret
          exact ⟨by rw [e0.out]; rfl, FIN.out _ RB.out⟩
        case false =>
          have e0 : Hid ((!false && !fp && (x && y && z) && (ru && pa && cc) && (x1 && x2 && x3 && cp && x4)) = (ru && pa && cc && x1 && x2 && x3 && cp && x4)) := Lib.hid (by have := HT.out; revert this; cases x <;> cases y <;> cases z <;> cases fp <;> simp; cases ru <;> cases pa <;> cases cc <;> simp)
          clear C1 C2 C3 HT
          have f6 := HF.out wc RB.out 6 _ rfl
          by_cases hr : s.rule = 0 ∨ s.rule = 1
          case neg =>
            obtain rfl : ru = false := by rw [← RU.out]; exact decide_eq_false hr
            have h0 : (s.rule == 0) = false := by simp; omega
            have h1 : (s.rule == 1) = false := by simp; omega
            go_wp2
            go_ret
            exact ⟨by rw [e0.out]; simp, FIN.out _ RB.out⟩
          case pos =>
            obtain rfl : ru = true := by rw [← RU.out]; exact decide_eq_true hr
            rcases hr with hr | hr
            all_goals
              have f7 := HF.out wc RB.out 7 _ rfl
              have f8 := HF.out wc RB.out 8 _ rfl
              have f9 := HF.out wc RB.out 9 _ rfl
              have f10 := HF.out wc RB.out 10 _ rfl
              have f11 := HF.out wc RB.out 11 _ rfl
              have f12 := HF.out wc RB.out 12 _ rfl
              have f13 := HF.out wc RB.out 13 _ rfl
              have f14 := HF.out wc RB.out 14 _ rfl
              have f15 := HF.out wc RB.out 15 _ rfl
              have f16 := HF.out wc RB.out 16 _ rfl
              have f17 := HF.out wc RB.out 17 _ rfl
              have f18 := HF.out wc RB.out 18 _ rfl
              have f19 := HF.out wc RB.out 19 _ rfl
              have f20 := HF.out wc RB.out 20 _ rfl
              go_wp2_with fail
              refine (C4.out _ RB.out).mono ?_
              rintro e w4 ⟨rfl, q⟩
              have R4 := Lib.hid (RB.out.trans (q.mono RB.out.size))
              clear q f7 f8 f9 f10 f11 f12 f13 f14 f15 f16 f17 f18 f19 f20
              cases pa
              case false =>
                go_wp2
                go_ret
                exact ⟨by rw [e0.out]; simp, FIN.out _ R4.out⟩
              have f21 := HF.out w4 R4.out 21 _ rfl
              go_wp2_with fail
              refine (C5.out _ R4.out).mono ?_
              rintro e w5 ⟨rfl, q⟩
              have R5 := Lib.hid (R4.out.trans (q.mono R4.out.size))
              clear q f21
              cases cc
              case false =>
                go_wp2
                go_ret
                exact ⟨by rw [e0.out]; simp, FIN.out _ R5.out⟩
              have f23 := HF.out w5 R5.out 23 _ rfl
              go_wp2_with fail
              refine (C6.out _ R5.out).mono ?_
              rintro e w6 ⟨rfl, q⟩
              have R6 := Lib.hid (R5.out.trans (q.mono R5.out.size))
              clear q f23
              cases x1
              case false =>
                go_wp2
                go_ret
                exact ⟨by rw [e0.out]; simp, FIN.out _ R6.out⟩
              have f30 := HF.out w6 R6.out 30 _ rfl
              go_wp2_with fail
              refine (C7.out _ R6.out).mono ?_
              rintro e w7 ⟨rfl, q⟩
              have R7 := Lib.hid (R6.out.trans (q.mono R6.out.size))
              clear q f30
              cases x2
              case false =>
                go_wp2
                go_ret
                exact ⟨by rw [e0.out]; simp, FIN.out _ R7.out⟩
              have f31 := HF.out w7 R7.out 31 _ rfl
              go_wp2_with fail
              refine (C8.out _ R7.out).mono ?_
              rintro e w8 ⟨rfl, q⟩
              have R8 := Lib.hid (R7.out.trans (q.mono R7.out.size))
              clear q f31
              cases x3
              case false =>
                go_wp2
                go_ret
                exact ⟨by rw [e0.out]; simp, FIN.out _ R8.out⟩
              have f28 := HF.out w8 R8.out 28 _ rfl
              have f29 := HF.out w8 R8.out 29 _ rfl
              by_cases hc : s.cap = 0 ∨ s.cap = 1
              case neg =>
                obtain rfl : cp = false := by rw [← CP.out]; exact decide_eq_false hc
                have h0 : (s.cap == 0) = false := by simp; omega
                have h1 : (s.cap == 1) = false := by simp; omega
                go_wp2
                go_ret
                exact ⟨by rw [e0.out]; simp, FIN.out _ R8.out⟩
              case pos =>
                obtain rfl : cp = true := by rw [← CP.out]; exact decide_eq_true hc
                rcases hc with hc | hc
                all_goals
                  go_wp2_with fail
                  refine (C9.out _ R8.out).mono ?_
                  rintro e w9 ⟨rfl, q⟩
                  have R9 := Lib.hid (R8.out.trans (q.mono R8.out.size))
                  clear q
                  go_wp2
                  go_ret
                  exact ⟨by rw [e0.out]; simp, FIN.out _ R9.out⟩

end Go.Proofs.YtglbfpjjnboeaaaGreat
