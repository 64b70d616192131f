/- Contracts of mutoscoperef5.Colors, .Color: for all keys of colours what the plain arithmetic says; of the memory nothing that was there turns. -/
import Derived.Test.YtmbbhhaoiicegaaHK
import Derived.Test.YtmbbhhaoiicegaaHL
import Derived.Test.YtmbbhhaoiicegaaRR5
namespace Go.Proofs.Ytmbbhhaoiicegaa
open Go.RowKit
open M

theorem r5_colors0 (ao : Option Addr) (cap : Nat) (w : World) :
    Calls Try.prog 21 #[.slice ao 0 cap] w fun e w' => e = .returned (.bool true) ∧ Below w.heap.size w w' := by
  go_enter Try.func21, Try.ntmps21
  go_wp2
  go_loop [3] (fun i => i = .int .i64 0) (fun _ => 0)
  case atStart => rfl
  case round =>
    subst hrel
    go_wp2
    go_ret
    exact ⟨rfl, Below.refl _ _⟩

set_option maxHeartbeats 2000000 in
theorem r5_colors1 (g o cap : Nat) (ks : List Ck) (w : World) (hr : Crow w g o ks) (hn : 0 < ks.length) :
    Calls Try.prog 21 #[.slice (some ⟨g, o, none⟩) ks.length cap] w fun e w' => e = .returned (.bool (right (bares ks))) ∧ Below w.heap.size w w' := by
  have hf := hr.few
  have hg := hr.lt hn
  have HR := Lib.hid hr
  clear hr
  obtain ⟨R, hR⟩ : ∃ R, right (bares ks) = R := ⟨_, rfl⟩
  rw [hR]
  have RR := Lib.hid hR
  clear hR
  go_enter Try.func21, Try.ntmps21
  go_wp2
  go_loopw [3] (fun i wr => ∃ n : Nat, n ≤ ks.length ∧ i = .int .i64 n ∧ rightN (bares ks) n = true ∧ Below w.heap.size w wr) (fun i _ => ks.length - (intOf i).toNat)
  case atStart => exact ⟨0, by omega, rfl, rfl, Below.refl _ _⟩
  case round =>
    obtain ⟨n, hn', rfl, he, hb⟩ := hrel
    have HE := Lib.hid he
    have HB := Lib.hid hb
    clear he hb
    by_cases hlt : n < ks.length
    · have hr' := fun (z : Later wr) => (HR.out.below HB.out hg).later hn z
      have c0 := fun z => (hr' z).c0 n hlt
      have c5 := fun z => (hr' z).c5 n hlt
      have c6 := fun z => (hr' z).c6 n hlt
      have c7 := fun z => (hr' z).c7 n hlt
      have c8 := fun z => (hr' z).c8 n hlt
      have c9 := fun z => (hr' z).c9 n hlt
      have o1 : (n : Int) < ks.length := by omega
      obtain ⟨p, hp⟩ : ∃ p, (okIn (ck ks n).t 1073741824 && okHow (ck ks n).h (ck ks n).a (ck ks n).b (ck ks n).c (ck ks n).d) = p := ⟨_, rfl⟩
      have hk : okK (ky (bares ks) n) = p := by
        rw [ky_bares, ← hp]; unfold okK
        simp only [bare]
        rw [show okIn 0 67108864 = true from rfl, Bool.and_true]
      have m1 := fun (z : Later wr) => r5_moves (ck ks n).t (ck ks n).h (ck ks n).a (ck ks n).b (ck ks n).c (ck ks n).d z.to
      rw [hp] at m1
      have M1 := Lib.hid m1
      have HK := Lib.hid hk
      clear hp hk m1
      cases p with
      | false =>
        have er : R = false := by
          rw [← RR.out]; unfold right
          rw [bares_length, rightN_off (m := n + 1) (by omega) (by simp [rightN, HK.out])]; simp
        subst er
        go_wp2_with fail
        refine wp_region_class (C := fun w' => ∃ z : Later wr, w' = z.to) (by kernel_rfl) (by kernel_rfl) ⟨⟨_, below_drew (Below.refl _ _)⟩, rfl⟩ ?_
        repeat (go_big_quiet_step (first | (go_at_call 27; exact Later.calls (M1.out _))))
        refine wpQuiet_nil ?_
        rintro _ ⟨z, rfl⟩
        go_wp2
        go_ret
        exact ⟨rfl, HB.out.trans (z.below.mono HB.out.size)⟩
      | true =>
        by_cases h0 : n = 0
        · subst h0
          clear hr'
          simp only [Nat.zero_mul, Nat.add_zero] at c0 c5 c6 c7 c8 c9
          have o0 : (0 : Int) < ks.length := by omega
          clear o1
          go_wp2_with fail
          refine wp_region_class (C := fun w' => ∃ z : Later wr, w' = z.to) (by kernel_rfl) (by kernel_rfl) ⟨⟨_, below_drew (Below.refl _ _)⟩, rfl⟩ ?_
          repeat (go_big_quiet_step (first | (go_at_call 27; exact Later.calls (M1.out _))))
          refine wpQuiet_nil ?_
          rintro _ ⟨z, rfl⟩
          go_wp2
          go_roundw
          case rel => exact ⟨1, by omega, by go_num, by simp [rightN, HK.out], HB.out.trans (z.below.mono HB.out.size)⟩
          case measure => simp [intOf]; omega
        · obtain ⟨m, hm⟩ : ∃ m : Nat, n = m + 1 := ⟨n - 1, by omega⟩
          have e1 : (n : Int) - 1 = (m : Int) := by omega
          have o2 : (m : Int) < ks.length := by omega
          have o3 : 0 < n := by omega
          have d0 := fun z => (hr' z).c0 m (by omega)
          have hx : rightN (bares ks) (n + 1) = decide ((ck ks m).t < (ck ks n).t) := by
            unfold rightN; rw [HE.out, HK.out, hm, Nat.add_sub_cancel, ky_bares, ky_bares]; simp [bare]
            exact decide_eq_decide.2 Iff.rfl
          have HX := Lib.hid hx
          clear hm hx hr'
          by_cases hc : (ck ks m).t < (ck ks n).t
          · go_wp2_with fail
            refine wp_region_class (C := fun w' => ∃ z : Later wr, w' = z.to) (by kernel_rfl) (by kernel_rfl) ⟨⟨_, below_drew (Below.refl _ _)⟩, rfl⟩ ?_
            repeat (go_big_quiet_step (first | (go_at_call 27; exact Later.calls (M1.out _))))
            refine wpQuiet_nil ?_
            rintro _ ⟨z, rfl⟩
            go_wp2
            go_roundw
            case rel => exact ⟨n + 1, by omega, by go_num, by rw [HX.out]; simpa using hc, HB.out.trans (z.below.mono HB.out.size)⟩
            case measure => simp [intOf]; omega
          · have er : R = false := by
              rw [← RR.out]; unfold right
              rw [bares_length, rightN_off (m := n + 1) (by omega) (by rw [HX.out]; simpa using hc)]; simp
            subst er
            go_wp2_with fail
            refine wp_region_class (C := fun w' => ∃ z : Later wr, w' = z.to) (by kernel_rfl) (by kernel_rfl) ⟨⟨_, below_drew (Below.refl _ _)⟩, rfl⟩ ?_
            repeat (go_big_quiet_step (first | (go_at_call 27; exact Later.calls (M1.out _))))
            refine wpQuiet_nil ?_
            rintro _ ⟨z, rfl⟩
            go_wp2
            go_ret
            exact ⟨rfl, HB.out.trans (z.below.mono HB.out.size)⟩
    · have en : n = ks.length := by omega
      have er : R = decide ((ks.length : Int) ≤ 32) := by
        have h1 : rightN (bares ks) ks.length = true := en ▸ HE.out
        rw [← RR.out]; unfold right; rw [bares_length, h1, Bool.and_true]
        exact decide_eq_decide.2 (by omega)
      subst er
      clear RR HE
      subst en
      go_wp2
      all_goals
        go_ret
        exact ⟨by simp [*], HB.out⟩
theorem r5_colors {v : Value} {ks : List Ck} {w : World} (h : Csl w v ks) :
    Calls Try.prog 21 #[v] w fun e w' => e = .returned (.bool (right (bares ks))) ∧ Below w.heap.size w w' := by
  rcases h with ⟨rfl, ao, cap, rfl⟩ | ⟨hn, g, o, cap, rfl, hr⟩
  · exact r5_colors0 ao cap w
  · exact r5_colors1 g o cap ks w hr hn

end Go.Proofs.Ytmbbhhaoiicegaa
