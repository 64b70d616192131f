/- Contracts of mutoscoperef5.Moves, .Right: for all keys what the plain arithmetic says; of the memory nothing that was there turns. -/
import Derived.Test.YteikhmendjahnaaRK5
namespace Go.Proofs.Yteikhmendjahnaa
open Go.RowKit
open M

theorem r5_moves (t h a b c d : Int) (w : World) :
    Calls Try.prog 27 #[.int .i64 t, .int .i64 h, .agg #[.int .i64 a, .int .i64 b, .int .i64 c, .int .i64 d]] w fun e w' => e = .returned (.bool (okIn t 1073741824 && okHow h a b c d)) ∧ Below w.heap.size w w' := by
  have hp : ∃ p, okIn t 1073741824 = p ∧ (decide (-1073741824 ≤ t) && decide (t ≤ 1073741824)) = p := ⟨_, rfl, rfl⟩
  obtain ⟨p, hp, hp'⟩ := hp
  rw [hp]
  have P := Lib.hid hp'
  clear hp hp'
  cases p with
  | false =>
    go_enter Try.func27, Try.ntmps27
    go_wp2_with (first | (go_at_call 28; refine (r5_within _ _ _ _).mono ?_; rintro e w' ⟨rfl, rfl⟩; rw [P.out]))
    go_ret
    exact ⟨by simp, (Below.refl _ _).alloc (Nat.le_refl _) _⟩
  | true =>
    by_cases h2 : h = 2
    · subst h2
      rw [show okHow 2 a b c d = okE a b c d by simp [okHow]]
      go_enter Try.func27, Try.ntmps27
      go_wp2_with (first | (go_at_call 28; refine (r5_within _ _ _ _).mono ?_; rintro e w' ⟨rfl, rfl⟩; rw [P.out]))
      refine (r5_ease _ _ _ _ _).mono ?_
      rintro e w1 ⟨rfl, hq⟩
      obtain ⟨_, HB⟩ := k4_keep has_new0 hq
      clear hq
      have HBB := Lib.hid HB
      clear HB
      go_wp2
      go_ret
      exact ⟨by simp, HBB.out⟩
    · by_cases h0 : h = 0 ∨ h = 1
      · rw [show okHow h a b c d = decide (a = 0 ∧ b = 0 ∧ c = 0 ∧ d = 0) from if_pos h0]
        rcases h0 with rfl | rfl
        · go_enter Try.func27, Try.ntmps27
          go_wp2_with (first | (go_at_call 28; refine (r5_within _ _ _ _).mono ?_; rintro e w' ⟨rfl, rfl⟩; rw [P.out]))
          all_goals
            go_ret
            exact ⟨by simp [*], (Below.refl _ _).alloc (Nat.le_refl _) _⟩
        · go_enter Try.func27, Try.ntmps27
          go_wp2_with (first | (go_at_call 28; refine (r5_within _ _ _ _).mono ?_; rintro e w' ⟨rfl, rfl⟩; rw [P.out]))
          all_goals
            go_ret
            exact ⟨by simp [*], (Below.refl _ _).alloc (Nat.le_refl _) _⟩
      · rw [show okHow h a b c d = false by simp [okHow, h0, h2]]
        have h00 : ¬ h = 0 := fun e => h0 (Or.inl e)
        have h01 : ¬ h = 1 := fun e => h0 (Or.inr e)
        clear h0
        go_enter Try.func27, Try.ntmps27
        go_wp2_with (first | (go_at_call 28; refine (r5_within _ _ _ _).mono ?_; rintro e w' ⟨rfl, rfl⟩; rw [P.out]))
        go_ret
        exact ⟨by simp, (Below.refl _ _).alloc (Nat.le_refl _) _⟩

theorem r5_right0 (ao : Option Addr) (cap : Nat) (w : World) :
    Calls Try.prog 17 #[.slice ao 0 cap] w fun e w' => e = .returned (.bool true) ∧ Below w.heap.size w w' := by
  go_enter Try.func17, Try.ntmps17
  go_wp2
  go_loop [3] (fun i => i = .int .i64 0) (fun _ => 0)
  case atStart => rfl
  case round =>
    subst hrel
    go_wp2
    go_ret
    exact ⟨rfl, Below.refl _ _⟩

set_option maxHeartbeats 2000000 in
theorem r5_right1 (g o cap : Nat) (ks : List Ky) (w : World) (hr : Row w g o ks) (hn : 0 < ks.length) :
    Calls Try.prog 17 #[.slice (some ⟨g, o, none⟩) ks.length cap] w fun e w' => e = .returned (.bool (right ks)) ∧ Below w.heap.size w w' := by
  have hf := hr.few
  have hg := hr.lt hn
  have HR := Lib.hid hr
  clear hr
  obtain ⟨R, hR⟩ : ∃ R, right ks = R := ⟨_, rfl⟩
  rw [hR]
  have RR := Lib.hid hR
  clear hR
  go_enter Try.func17, Try.ntmps17
  go_wp2
  go_loopw [3] (fun i wr => ∃ n : Nat, n ≤ ks.length ∧ i = .int .i64 n ∧ rightN ks n = true ∧ Below w.heap.size w wr) (fun i _ => ks.length - (intOf i).toNat)
  case atStart => exact ⟨0, by omega, rfl, rfl, Below.refl _ _⟩
  case round =>
    obtain ⟨n, hn', rfl, he, hb⟩ := hrel
    have HE := Lib.hid he
    have HB := Lib.hid hb
    clear he hb
    by_cases hlt : n < ks.length
    · have hr' := fun (z : Later wr) => (HR.out.below HB.out hg).later hn z
      have c0 := fun z => (hr' z).c0 n hlt
      have c1 := fun z => (hr' z).c1 n hlt
      have c2 := fun z => (hr' z).c2 n hlt
      have c3 := fun z => (hr' z).c3 n hlt
      have c4 := fun z => (hr' z).c4 n hlt
      have c5 := fun z => (hr' z).c5 n hlt
      have c6 := fun z => (hr' z).c6 n hlt
      have o1 : (n : Int) < ks.length := by omega
      obtain ⟨p, hp⟩ : ∃ p, (okIn (ky ks n).t 1073741824 && okHow (ky ks n).h (ky ks n).a (ky ks n).b (ky ks n).c (ky ks n).d) = p := ⟨_, rfl⟩
      obtain ⟨q, hq⟩ : ∃ q, okIn (ky ks n).v 67108864 = q := ⟨_, rfl⟩
      have hk : okK (ky ks n) = (p && q) := by
        unfold okK; rw [← hp, ← hq]
        cases okIn (ky ks n).t 1073741824 <;> cases okIn (ky ks n).v 67108864 <;> simp
      have m1 := fun (z : Later wr) => r5_moves (ky ks n).t (ky ks n).h (ky ks n).a (ky ks n).b (ky ks n).c (ky ks n).d z.to
      have m2 := fun (z : Later wr) => r5_within (ky ks n).v (-67108864) 67108864 z.to
      rw [hp] at m1
      rw [show (decide (-67108864 ≤ (ky ks n).v) && decide ((ky ks n).v ≤ 67108864)) = q from hq] at m2
      have M1 := Lib.hid m1
      have M2 := Lib.hid m2
      have HK := Lib.hid hk
      clear hp hq hk m1 m2
      cases p with
      | false =>
        have er : R = false := by
          rw [← RR.out]; unfold right
          rw [rightN_off (m := n + 1) (by omega) (by simp [rightN, HK.out])]; simp
        subst er
        go_wp2_with fail
        refine wp_region_class (C := fun w' => ∃ z : Later wr, w' = z.to) (by kernel_rfl) (by kernel_rfl) ⟨⟨_, below_drew (Below.refl _ _)⟩, rfl⟩ ?_
        repeat (go_big_quiet_step (first | (go_at_call 27; exact Later.calls (M1.out _)) | (go_at_call 28; exact Later.calls (below_of (M2.out _)))))
        refine wpQuiet_nil ?_
        rintro _ ⟨z, rfl⟩
        go_wp2
        go_ret
        exact ⟨rfl, HB.out.trans (z.below.mono HB.out.size)⟩
      | true =>
        cases q with
        | false =>
          have er : R = false := by
            rw [← RR.out]; unfold right
            rw [rightN_off (m := n + 1) (by omega) (by simp [rightN, HK.out])]; simp
          subst er
          go_wp2_with fail
          refine wp_region_class (C := fun w' => ∃ z : Later wr, w' = z.to) (by kernel_rfl) (by kernel_rfl) ⟨⟨_, below_drew (Below.refl _ _)⟩, rfl⟩ ?_
          repeat (go_big_quiet_step (first | (go_at_call 27; exact Later.calls (M1.out _)) | (go_at_call 28; exact Later.calls (below_of (M2.out _)))))
          refine wpQuiet_nil ?_
          rintro _ ⟨z, rfl⟩
          go_wp2
          go_ret
          exact ⟨rfl, HB.out.trans (z.below.mono HB.out.size)⟩
        | true =>
          by_cases h0 : n = 0
          · subst h0
            clear hr'
            simp only [Nat.zero_mul, Nat.add_zero] at c0 c1 c2 c3 c4 c5 c6
            have o0 : (0 : Int) < ks.length := by omega
            clear o1
            go_wp2_with fail
            refine wp_region_class (C := fun w' => ∃ z : Later wr, w' = z.to) (by kernel_rfl) (by kernel_rfl) ⟨⟨_, below_drew (Below.refl _ _)⟩, rfl⟩ ?_
            repeat (go_big_quiet_step (first | (go_at_call 27; exact Later.calls (M1.out _)) | (go_at_call 28; exact Later.calls (below_of (M2.out _)))))
            refine wpQuiet_nil ?_
            rintro _ ⟨z, rfl⟩
            go_wp2
            go_roundw
            case rel => exact ⟨1, by omega, by go_num, by simp [rightN, HK.out], HB.out.trans (z.below.mono HB.out.size)⟩
            case measure => simp [intOf]; omega
          · obtain ⟨m, hm⟩ : ∃ m : Nat, n = m + 1 := ⟨n - 1, by omega⟩
            have e1 : (n : Int) - 1 = (m : Int) := by omega
            have o2 : (m : Int) < ks.length := by omega
            have o3 : 0 < n := by omega
            have d0 := fun z => (hr' z).c0 m (by omega)
            have hx : rightN ks (n + 1) = decide ((ky ks m).t < (ky ks n).t) := by unfold rightN; rw [HE.out, HK.out, hm]; simp
            have HX := Lib.hid hx
            clear hm hx hr'
            by_cases hc : (ky ks m).t < (ky ks n).t
            · go_wp2_with fail
              refine wp_region_class (C := fun w' => ∃ z : Later wr, w' = z.to) (by kernel_rfl) (by kernel_rfl) ⟨⟨_, below_drew (Below.refl _ _)⟩, rfl⟩ ?_
              repeat (go_big_quiet_step (first | (go_at_call 27; exact Later.calls (M1.out _)) | (go_at_call 28; exact Later.calls (below_of (M2.out _)))))
              refine wpQuiet_nil ?_
              rintro _ ⟨z, rfl⟩
              go_wp2
              go_roundw
              case rel => exact ⟨n + 1, by omega, by go_num, by rw [HX.out]; simpa using hc, HB.out.trans (z.below.mono HB.out.size)⟩
              case measure => simp [intOf]; omega
            · have er : R = false := by
                rw [← RR.out]; unfold right
                rw [rightN_off (m := n + 1) (by omega) (by rw [HX.out]; simpa using hc)]; simp
              subst er
              go_wp2_with fail
              refine wp_region_class (C := fun w' => ∃ z : Later wr, w' = z.to) (by kernel_rfl) (by kernel_rfl) ⟨⟨_, below_drew (Below.refl _ _)⟩, rfl⟩ ?_
              repeat (go_big_quiet_step (first | (go_at_call 27; exact Later.calls (M1.out _)) | (go_at_call 28; exact Later.calls (below_of (M2.out _)))))
              refine wpQuiet_nil ?_
              rintro _ ⟨z, rfl⟩
              go_wp2
              go_ret
              exact ⟨rfl, HB.out.trans (z.below.mono HB.out.size)⟩
    · have en : n = ks.length := by omega
      have er : R = decide ((ks.length : Int) ≤ 32) := by
        have h1 : rightN ks ks.length = true := en ▸ HE.out
        rw [← RR.out]; unfold right; rw [h1, Bool.and_true]
        exact decide_eq_decide.2 (by omega)
      subst er
      clear RR HE
      subst en
      go_wp2
      all_goals
        go_ret
        exact ⟨by simp [*], HB.out⟩
theorem r5_right {v : Value} {ks : List Ky} {w : World} (h : Sl w v ks) :
    Calls Try.prog 17 #[v] w fun e w' => e = .returned (.bool (right ks)) ∧ Below w.heap.size w w' := by
  rcases h with ⟨rfl, ao, cap, rfl⟩ | ⟨hn, g, o, cap, rfl, hr⟩
  · exact r5_right0 ao cap w
  · exact r5_right1 g o cap ks w hr hn

end Go.Proofs.Yteikhmendjahnaa
