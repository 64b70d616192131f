/- Contracts of key.within, .rightHow, .rightKey, .Right: for all keys what the plain arithmetic says; of the memory nothing that was there turns. -/
import Derived.Test.YtglbfpjjnboeaaaGreatKA5
namespace Go.Proofs.YtglbfpjjnboeaaaGreat
open Go.RowKit
open M

theorem k_within (x far : Int) (w : World) (h0 : 0 ≤ far) (h1 : far ≤ 4611686018427387904) :
    Calls Tryz.prog 103 #[.int .i64 x, .int .i64 far] w fun e w' => e = .returned (.bool (okIn x far)) ∧ w = w' := by
  unfold okIn
  go_enter Tryz.func103, Tryz.ntmps103
  go_wp2
  all_goals
    go_ret
    exact ⟨by congr 2; simp [*]; try omega, rfl⟩

theorem k_how (h a b c d : Int) (w : World) :
    Calls Tryz.prog 104 #[.int .i64 h, .agg #[.int .i64 a, .int .i64 b, .int .i64 c, .int .i64 d]] w fun e w' => e = .returned (.bool (okHow h a b c d)) ∧ Below w.heap.size w w' := by
  by_cases h0 : h = 0 ∨ h = 1
  · rw [show okHow h a b c d = decide (a = 0 ∧ b = 0 ∧ c = 0 ∧ d = 0) from if_pos h0]
    rcases h0 with rfl | rfl
    · go_enter Tryz.func104, Tryz.ntmps104
      go_wp2
      all_goals
        go_ret
        exact ⟨by simp [*], (Below.refl _ _).alloc (Nat.le_refl _) _⟩
    · go_enter Tryz.func104, Tryz.ntmps104
      go_wp2
      all_goals
        go_ret
        exact ⟨by simp [*], (Below.refl _ _).alloc (Nat.le_refl _) _⟩
  · by_cases h2 : h = 2
    · subst h2
      rw [show okHow 2 a b c d = okE a b c d by simp [okHow]]
      go_enter Tryz.func104, Tryz.ntmps104
      go_wp2_with fail
      refine (e_right _ _ _ _ _).mono ?_
      rintro e w1 ⟨rfl, hq⟩
      obtain ⟨_, HB⟩ := k4_keep has_new0 hq
      clear hq
      have HBB := Lib.hid HB
      clear HB
      go_wp2
      go_ret
      exact ⟨rfl, HBB.out⟩
    · rw [show okHow h a b c d = false by simp [okHow, h0, h2]]
      have h00 : ¬ h = 0 := fun e => h0 (Or.inl e)
      have h01 : ¬ h = 1 := fun e => h0 (Or.inr e)
      clear h0
      go_enter Tryz.func104, Tryz.ntmps104
      go_wp2
      go_ret
      exact ⟨rfl, (Below.refl _ _).alloc (Nat.le_refl _) _⟩

theorem k_key (k : Ky) (w : World) :
    Calls Tryz.prog 83 #[.agg (kCells k)] w fun e w' => e = .returned (.bool (okK k)) ∧ Below w.heap.size w w' := by
  obtain ⟨t, v, h, a, b, c, d⟩ := k
  unfold okK
  simp only
  obtain ⟨p, hp⟩ : ∃ p, okIn t 1073741824 = p := ⟨_, rfl⟩
  obtain ⟨q, hq⟩ : ∃ q, okIn v 67108864 = q := ⟨_, rfl⟩
  rw [hp, hq]
  have P := Lib.hid hp
  have Q := Lib.hid hq
  clear hp hq
  cases p with
  | false =>
    go_enter Tryz.func83, Tryz.ntmps83
    go_wp2_with (first | (go_at_call 103; refine (k_within _ _ _ (by decide) (by decide)).mono ?_; rintro e w' ⟨rfl, rfl⟩; rw [P.out]))
    go_ret
    exact ⟨by simp, (Below.refl _ _).alloc (Nat.le_refl _) _⟩
  | true =>
    cases q with
    | false =>
      go_enter Tryz.func83, Tryz.ntmps83
      go_wp2_with (first | (go_at_call 103; refine (k_within _ _ _ (by decide) (by decide)).mono ?_; rintro e w' ⟨rfl, rfl⟩; first | rw [P.out] | rw [Q.out]))
      go_ret
      exact ⟨by simp, (Below.refl _ _).alloc (Nat.le_refl _) _⟩
    | true =>
      go_enter Tryz.func83, Tryz.ntmps83
      go_wp2_with (first | (go_at_call 103; refine (k_within _ _ _ (by decide) (by decide)).mono ?_; rintro e w' ⟨rfl, rfl⟩; first | rw [P.out] | rw [Q.out]))
      refine (k_how _ _ _ _ _ _).mono ?_
      rintro e w1 ⟨rfl, hq⟩
      obtain ⟨_, HB⟩ := k4_keep has_new0 hq
      clear hq
      have HBB := Lib.hid HB
      clear HB
      go_wp2
      go_ret
      exact ⟨by simp, HBB.out⟩

theorem k_right0 (ao : Option Addr) (cap : Nat) (w : World) :
    Calls Tryz.prog 53 #[.slice ao 0 cap] w fun e w' => e = .returned (.bool true) ∧ Below w.heap.size w w' := by
  go_enter Tryz.func53, Tryz.ntmps53
  go_wp2
  go_loop [3, 4, 10] (fun _ _ i => i = .int .i64 0) (fun _ _ _ => 0)
  case atStart => rfl
  case round =>
    subst hrel
    go_wp2
    go_ret
    exact ⟨rfl, Below.refl _ _⟩

set_option maxHeartbeats 1000000 in
theorem k_right1 (g o cap : Nat) (ks : List Ky) (w : World) (hr : Row w g o ks) (hn : 0 < ks.length) :
    Calls Tryz.prog 53 #[.slice (some ⟨g, o, none⟩) ks.length cap] w fun e w' => e = .returned (.bool (right ks)) ∧ Below w.heap.size w w' := by
  have hf := hr.few
  have hg := hr.lt hn
  have HR := Lib.hid hr
  clear hr
  by_cases h32 : ks.length ≤ 32
  · rw [show right ks = rightN ks ks.length by simp [right, h32]]
    obtain ⟨R, hR⟩ : ∃ R, rightN ks ks.length = R := ⟨_, rfl⟩
    rw [hR]
    have RR := Lib.hid hR
    clear hR
    have h32i : (ks.length : Int) ≤ 32 := by omega
    go_enter Tryz.func53, Tryz.ntmps53
    go_wp2
    go_loopw [3, 4, 10] (fun _ _ i wr => ∃ n : Nat, n ≤ ks.length ∧ i = .int .i64 n ∧ rightN ks n = true ∧ Below w.heap.size w wr) (fun _ _ i _ => ks.length - (intOf i).toNat)
    case atStart => exact ⟨0, by omega, rfl, rfl, Below.refl _ _⟩
    case round =>
      obtain ⟨n, hn', rfl, he, hb⟩ := hrel
      have HE := Lib.hid he
      have HB := Lib.hid hb
      clear he hb
      by_cases hlt : n < ks.length
      · have hr := HR.out.below HB.out hg
        have c0 := hr.c0 n hlt
        have c1 := hr.c1 n hlt
        have c2 := hr.c2 n hlt
        have c3 := hr.c3 n hlt
        have c4 := hr.c4 n hlt
        have c5 := hr.c5 n hlt
        have c6 := hr.c6 n hlt
        have o1 : (n : Int) < ks.length := by omega
        clear hr
        obtain ⟨p, hp⟩ : ∃ p, okK (ky ks n) = p := ⟨_, rfl⟩
        have P := Lib.hid hp
        clear hp
        go_wp2_with fail
        refine (k_key (ky ks n) _).mono ?_
        rw [P.out]
        rintro e w1 ⟨rfl, hq⟩
        have H0 : Has w1 wr.heap.size (kCells (ky ks n)) 38 := Has.below has_new0 hq has_new0.lt
        have hb1 : Below w.heap.size w w1 := (HB.out.alloc HB.out.size _).trans (hq.mono (by have := HB.out.size; simp; omega))
        have HB1 := Lib.hid hb1
        have HH := Lib.hid H0
        clear hb1 hq c0 c1 c2 c3 c4 c5 c6 H0 HB
        cases p with
        | false =>
          have er : R = false := RR.out.symm.trans (rightN_off (m := n + 1) (by omega) (by simp [rightN, P.out]))
          subst er
          go_wp2
          go_ret
          exact ⟨rfl, HB1.out⟩
        | true =>
          by_cases h0 : n = 0
          · subst h0
            go_wp2_with fail
            refine wp_region_class (C := fun w' => ∃ z : Later w1, w' = z.to) (by kernel_rfl) (by kernel_rfl) ⟨⟨_, below_drew (Below.refl _ _)⟩, rfl⟩ ?_
            repeat (go_big_quiet_step (first | fail))
            refine wpQuiet_nil ?_
            rintro _ ⟨z, rfl⟩
            go_wp2
            go_roundw
            case rel => exact ⟨1, by omega, by go_num, by simp [rightN, P.out], HB1.out.trans (z.below.mono HB1.out.size)⟩
            case measure => simp [intOf]; omega
          · obtain ⟨m, hm⟩ : ∃ m : Nat, n = m + 1 := ⟨n - 1, by omega⟩
            have e1 : (n : Int) - 1 = (m : Int) := by omega
            have o2 : (m : Int) < ks.length := by omega
            have o3 : 0 < n := by omega
            have hr := HR.out.below HB1.out hg
            have d0 := fun z => (hr.later hn z).c0 m (by omega)
            have c0 := Later.read HH.out 0 _ rfl
            have hx : rightN ks (n + 1) = decide ((ky ks m).t < (ky ks n).t) := by unfold rightN; rw [HE.out, P.out, hm]; simp
            have HX := Lib.hid hx
            have HM := Lib.hid hm
            clear hm hx hr
            by_cases hc : (ky ks m).t < (ky ks n).t
            · go_wp2_with fail
              refine wp_region_class (C := fun w' => ∃ z : Later w1, w' = z.to) (by kernel_rfl) (by kernel_rfl) ⟨⟨_, below_drew (Below.refl _ _)⟩, rfl⟩ ?_
              repeat (go_big_quiet_step (first | fail))
              refine wpQuiet_nil ?_
              rintro _ ⟨z, rfl⟩
              go_wp2
              go_roundw
              case rel => exact ⟨n + 1, by omega, by go_num, by rw [HX.out]; simpa using hc, HB1.out.trans (z.below.mono HB1.out.size)⟩
              case measure => simp [intOf]; omega
            · have er : R = false := RR.out.symm.trans (rightN_off (m := n + 1) (by omega) (by rw [HX.out]; simpa using hc))
              subst er
              go_wp2_with fail
              refine wp_region_class (C := fun w' => ∃ z : Later w1, w' = z.to) (by kernel_rfl) (by kernel_rfl) ⟨⟨_, below_drew (Below.refl _ _)⟩, rfl⟩ ?_
              repeat (go_big_quiet_step (first | fail))
              refine wpQuiet_nil ?_
              rintro _ ⟨z, rfl⟩
              go_wp2
              go_ret
              exact ⟨rfl, HB1.out.trans (z.below.mono HB1.out.size)⟩
      · have en : n = ks.length := by omega
        have er : R = true := by rw [← RR.out, ← en]; exact HE.out
        subst er
        clear en
        go_wp2
        go_ret
        exact ⟨rfl, HB.out⟩
  · rw [show right ks = false by simp [right, h32]]
    have h32i : (32 : Int) < ks.length := by omega
    go_enter Tryz.func53, Tryz.ntmps53
    go_wp2
    go_ret
    exact ⟨rfl, Below.refl _ _⟩
theorem k_right {v : Value} {ks : List Ky} {w : World} (h : Sl w v ks) :
    Calls Tryz.prog 53 #[v] w fun e w' => e = .returned (.bool (right ks)) ∧ Below w.heap.size w w' := by
  rcases h with ⟨rfl, ao, cap, rfl⟩ | ⟨hn, g, o, cap, rfl, hr⟩
  · exact k_right0 ao cap w
  · exact k_right1 g o cap ks w hr hn

end Go.Proofs.YtglbfpjjnboeaaaGreat
