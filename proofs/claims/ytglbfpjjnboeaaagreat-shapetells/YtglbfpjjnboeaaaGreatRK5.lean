/- Contracts of mutoscoperef5.Goes, .Find, .At, .Moves, .Right: for all keys what the plain arithmetic says; of the memory nothing that was there turns. -/
import Derived.Test.YtglbfpjjnboeaaaGreatR5
import Derived.Test.YtglbfpjjnboeaaaGreatKA5
import Derived.Test.YtglbfpjjnboeaaaGreatMidR
namespace Go.Proofs.YtglbfpjjnboeaaaGreat
open Go.RowKit
open M

theorem r5_goes (h a b c d p : Int) (w : World) :
    Calls Tryz.prog 80 #[.int .i64 h, .agg #[.int .i64 a, .int .i64 b, .int .i64 c, .int .i64 d], .int .i64 p] w fun e w' => e = .returned (.int .i64 (goes h a b c d p)) ∧ Below w.heap.size w w' := by
  by_cases h0 : h = 0
  · subst h0
    by_cases hp : 65536 ≤ p
    · rw [show goes 0 a b c d p = 65536 by simp [goes, hp]]
      go_enter Tryz.func80, Tryz.ntmps80
      go_wp2
      go_ret
      exact ⟨rfl, (Below.refl _ _).alloc (Nat.le_refl _) _⟩
    · rw [show goes 0 a b c d p = 0 by simp [goes, hp]]
      go_enter Tryz.func80, Tryz.ntmps80
      go_wp2
      go_ret
      exact ⟨rfl, (Below.refl _ _).alloc (Nat.le_refl _) _⟩
  · by_cases h1 : h = 1
    · subst h1
      rw [show goes 1 a b c d p = p by simp [goes]]
      go_enter Tryz.func80, Tryz.ntmps80
      go_wp2
      go_ret
      exact ⟨rfl, (Below.refl _ _).alloc (Nat.le_refl _) _⟩
    · by_cases h2 : h = 2
      · subst h2
        rw [show goes 2 a b c d p = curve a b c d p by simp [goes]]
        go_enter Tryz.func80, Tryz.ntmps80
        go_wp2_with fail
        refine (r5_curve _ _ _ _ _ _).mono ?_
        rintro e w1 ⟨rfl, hq⟩
        obtain ⟨_, HB⟩ := k4_keep has_new0 hq
        clear hq
        have HBB := Lib.hid HB
        clear HB
        go_wp2
        go_ret
        exact ⟨rfl, HBB.out⟩
      · rw [show goes h a b c d p = 0 by simp [goes, h0, h1, h2]]
        go_enter Tryz.func80, Tryz.ntmps80
        go_wp2
        go_ret
        exact ⟨rfl, (Below.refl _ _).alloc (Nat.le_refl _) _⟩

theorem r5_find1 (g o cap : Nat) (ks : List Ky) (t : Int) (w : World) (hr : Row w g o ks) :
    Calls Tryz.prog 78 #[.slice (some ⟨g, o, none⟩) ks.length cap, .int .i64 t] w fun e w' => e = .returned (.int .i64 (find ks t)) ∧ w = w' := by
  have hf := hr.few
  have HR := Lib.hid hr
  clear hr
  go_enter Tryz.func78, Tryz.ntmps78
  go_wp2
  go_loop [5, 6] (fun k i => ∃ n : Nat, n ≤ ks.length ∧ i = .int .i64 n ∧ k = .int .i64 (findN ks t n)) (fun _ i => ks.length - (intOf i).toNat)
  case atStart => exact ⟨0, by omega, rfl, rfl⟩
  case round =>
    obtain ⟨n, hn, rfl, rfl⟩ := hrel
    by_cases hlt : n < ks.length
    · have c0 := HR.out.c0 n hlt
      have o1 : (n : Int) < ks.length := by omega
      by_cases hc : (ky ks n).t ≤ t
      · have he := findN_hit hc
        have HE := Lib.hid he
        clear he
        go_wp2
        go_round
        case rel => exact ⟨n + 1, by omega, by go_num, by rw [HE.out]⟩
        case measure => simp [intOf]; omega
      · have he := findN_miss hc
        have HE := Lib.hid he
        clear he
        go_wp2
        go_round
        case rel => exact ⟨n + 1, by omega, by go_num, by rw [HE.out]⟩
        case measure => simp [intOf]; omega
    · obtain rfl : n = ks.length := by omega
      go_wp2
      go_ret
      exact ⟨rfl, rfl⟩
theorem r5_find0 (ao : Option Addr) (cap : Nat) (t : Int) (w : World) :
    Calls Tryz.prog 78 #[.slice ao 0 cap, .int .i64 t] w fun e w' => e = .returned (.int .i64 (-1)) ∧ w = w' := by
  go_enter Tryz.func78, Tryz.ntmps78
  go_wp2
  go_loop [5, 6] (fun k i => i = .int .i64 0 ∧ k = .int .i64 (-1)) (fun _ _ => 0)
  case atStart => exact ⟨rfl, rfl⟩
  case round =>
    obtain ⟨rfl, rfl⟩ := hrel
    go_wp2
    go_ret
    exact ⟨rfl, rfl⟩
theorem r5_find {v : Value} {ks : List Ky} {w : World} (h : Sl w v ks) (t : Int) :
    Calls Tryz.prog 78 #[v, .int .i64 t] w fun e w' => e = .returned (.int .i64 (find ks t)) ∧ w = w' := by
  rcases h with ⟨rfl, ao, cap, rfl⟩ | ⟨_, g, o, cap, rfl, hr⟩
  · exact r5_find0 ao cap t w
  · exact r5_find1 g o cap ks t w hr

theorem r5_at0 (ao : Option Addr) (cap : Nat) (t no : Int) (w : World) :
    Calls Tryz.prog 48 #[.slice ao 0 cap, .int .i64 t, .int .i64 no] w fun e w' => e = .returned (.int .i64 no) ∧ Below w.heap.size w w' := by
  go_enter Tryz.func48, Tryz.ntmps48
  go_wp2
  go_ret
  exact ⟨rfl, Below.refl _ _⟩

set_option maxHeartbeats 1000000 in
theorem r5_at1 (g o cap : Nat) (ks : List Ky) (t no : Int) (w : World) (hr : Row w g o ks) (hn : 0 < ks.length) :
    Calls Tryz.prog 48 #[.slice (some ⟨g, o, none⟩) ks.length cap, .int .i64 t, .int .i64 no] w fun e w' => e = .returned (.int .i64 (atk ks t no)) ∧ Below w.heap.size w w' := by
  have hf := hr.few
  have cf := fun w' (hb : Row w' g o ks) => r5_find1 g o cap ks t w' hb
  rcases atk_cases ks t no hn with ⟨e1, e2⟩ | ⟨i, e1, hi, e2⟩ | ⟨i, e1, hi, e2⟩
  · rw [e2]
    rw [e1] at cf
    have c1 := hr.c1 0 hn
    rw [Nat.zero_mul, Nat.add_zero] at c1
    have HR := Lib.hid hr
    have CF := Lib.hid cf
    clear hr cf e1 e2
    go_enter Tryz.func48, Tryz.ntmps48
    go_wp2_with (go_at_call 78; refine (CF.out _ HR.out).mono ?_; rintro e w' ⟨rfl, rfl⟩)
    go_ret
    exact ⟨rfl, Below.refl _ _⟩
  · rw [e2]
    rw [e1] at cf
    have c1 := hr.c1 i (by omega)
    have hl : (ks.length : Int) - 1 = (i : Int) := by omega
    have HR := Lib.hid hr
    have CF := Lib.hid cf
    clear hr cf e1 e2
    go_enter Tryz.func48, Tryz.ntmps48
    go_wp2_with (go_at_call 78; refine (CF.out _ HR.out).mono ?_; rintro e w' ⟨rfl, rfl⟩)
    go_ret
    exact ⟨rfl, Below.refl _ _⟩
  · rw [e2]
    rw [e1] at cf
    have hr' := hr.later hn
    have c0 := fun z => (hr' z).c0 i (by omega)
    have c1 := fun z => (hr' z).c1 i (by omega)
    have c2 := fun z => (hr' z).c2 i (by omega)
    have c3 := fun z => (hr' z).c3 i (by omega)
    have c4 := fun z => (hr' z).c4 i (by omega)
    have c5 := fun z => (hr' z).c5 i (by omega)
    have c6 := fun z => (hr' z).c6 i (by omega)
    have d0 := fun z => (hr' z).c0 (i + 1) (by omega)
    have d1 := fun z => (hr' z).c1 (i + 1) (by omega)
    have o1 : (i : Int) < ks.length := by omega
    have o2 : (i : Int) + 1 < ks.length := by omega
    have o3 : ¬ ((i : Int) = ks.length - 1) := by omega
    have HR := Lib.hid hr
    have CF := Lib.hid cf
    clear hr hr' cf e1 e2
    unfold tween
    go_enter Tryz.func48, Tryz.ntmps48
    go_wp2_with (first | (go_at_call 78; refine (CF.out _ HR.out).mono ?_; rintro e w' ⟨rfl, rfl⟩))
    refine wp_region_class (C := fun w' => ∃ z : Later w, w' = z.to) (by kernel_rfl) (by kernel_rfl) ⟨⟨_, below_drew (Below.refl _ _)⟩, rfl⟩ ?_
    repeat (go_big_quiet_step (first | (go_at_call 81; exact Later.calls (below_of (r5_part _ _ _ _))) | (go_at_call 80; exact Later.calls (r5_goes _ _ _ _ _ _ _)) | (go_at_call 79; exact Later.calls (below_drawn (r_mid _ _ _ _)))))
    refine wpQuiet_nil ?_
    rintro _ ⟨z, rfl⟩
    go_wp2
    go_ret
    exact ⟨rfl, z.below⟩
theorem r5_atk {v : Value} {ks : List Ky} {w : World} (h : Sl w v ks) (t no : Int) :
    Calls Tryz.prog 48 #[v, .int .i64 t, .int .i64 no] w fun e w' => e = .returned (.int .i64 (atk ks t no)) ∧ Below w.heap.size w w' := by
  rcases h with ⟨rfl, ao, cap, rfl⟩ | ⟨hn, g, o, cap, rfl, hr⟩
  · exact r5_at0 ao cap t no w
  · exact r5_at1 g o cap ks t no w hr hn

end Go.Proofs.YtglbfpjjnboeaaaGreat
