/- The walk of mutoscopelaw5.KeyTells: it returns true; of the memory nothing that was there turns. No condition. -/
import Derived.Test.YteikhmendjahnaaS5
import Derived.Test.YteikhmendjahnaaL5
import Derived.Test.YteikhmendjahnaaRI5
import Derived.Deep.RegionWith
namespace Go.Proofs.Yteikhmendjahnaa
open Go.RowKit
open M

theorem Arg.below {w w' : World} {v : Value} {ks : List Ky} (h : Arg w v ks) (hb : Below w.heap.size w w') : Arg w' v ks := by
  rcases h with h | ⟨g, o, len, cap, hv, h0, h1, h2, hn, hr⟩
  · exact Or.inl h
  · exact Or.inr ⟨g, o, len, cap, hv, h0, h1, h2, hn, hr.below hb (hr.lt (by omega))⟩

set_option maxHeartbeats 4000000 in
theorem keyTells_walk {w : World} (l : Value) (ks : List Ky) (t no how a b c d p : Int) (hA : Arg w l ks) :
    Calls Try.prog 4 #[l, .int .i64 t, .int .i64 no, .int .i64 how, .agg #[.int .i64 a, .int .i64 b, .int .i64 c, .int .i64 d], .int .i64 p] w fun r w' => r = .returned (.bool true) ∧ Below w.heap.size w w' := by
  have hA1 : Arg (w.alloc (.cells #[.int .i64 a, .int .i64 b, .int .i64 c, .int .i64 d] 24)) l ks := hA.below ((Below.refl _ _).alloc (Nat.le_refl _) _)
  rcases hA with ⟨rfl, ao, cap, rfl⟩ | ⟨g, o, len, cap, rfl, h0, h1, h2, hn, hr⟩
  · have hs : Sl w (.slice ao 0 cap) [] := Or.inl ⟨rfl, _, _, rfl⟩
    have HA := Lib.hid hA1
    have HS := Lib.hid hs
    clear hA1 hs
    go_enter Try.func4, Try.ntmps4
    go_wp2_with fail
    refine (l5_rising HA.out).mono ?_
    rintro e w1 ⟨v, rs, A, rfl, hl, hrise, hown, hb⟩
    have hB1 : Below w.heap.size w w1 := ((Below.refl _ _).alloc (Nat.le_refl _) _).trans (hb.mono (by simp))
    have hS := (hown.sl (by have := hrise.few; omega))
    have H0 : Has w1 w.heap.size #[.int .i64 a, .int .i64 b, .int .i64 c, .int .i64 d] 24 := Has.below has_new0 hb has_new0.lt
    have hL : Sl w1 (.slice ao 0 cap) [] := HS.out.below hB1
    have r0 := Later.read H0 0 _ rfl
    have r1 := Later.read H0 1 _ rfl
    have r2 := Later.read H0 2 _ rfl
    have r3 := Later.read H0 3 _ rfl
    have SR := Lib.hid (fun z : Later w1 => hS.below z.below)
    have SL := Lib.hid (fun z : Later w1 => hL.below z.below)
    have HB := Lib.hid hB1
    clear hl hrise hown hb hS H0 hL hB1 HA HS
    obtain ⟨b1, hb1, b10, b11⟩ : ∃ x, bits .and .i64 t 255 = x ∧ 0 ≤ x ∧ x ≤ 255 := ⟨_, rfl, by rw [and_byte]; omega, by rw [and_byte]; omega⟩
    obtain ⟨b2, hb2⟩ : ∃ x, bits .and .i64 t 7 = x := ⟨_, rfl⟩
    obtain ⟨b3, hb3⟩ : ∃ x, bits .and .i64 how 3 = x := ⟨_, rfl⟩
    obtain ⟨b4, hb4⟩ : ∃ x, bits .and .i64 p 65535 = x := ⟨_, rfl⟩
    go_wp2_with fail
    refine wp_region_class (C := fun w' => ∃ z : Later w1, w' = z.to) (by kernel_rfl) (by kernel_rfl) ⟨⟨_, below_drew (Below.refl _ _)⟩, rfl⟩ ?_
    repeat (go_big_quiet_step (first | (go_at_call_of 8 v; exact Later.calls (l5_same (SR.out _) _ _)) | (go_at_call 8; exact Later.calls (l5_same (SL.out _) _ _)) | (go_at_call 9; exact Later.calls (k_goes _ _ _ _ _ _ _)) | (go_at_call 10; exact Later.calls (r5_goes _ _ _ _ _ _ _)) | (go_at_call 11; exact Later.calls (known5 _))))
    refine wpQuiet_nil ?_
    rintro _ ⟨z, rfl⟩
    go_wp2
    go_ret
    exact ⟨rfl, HB.out.trans (z.below.mono HB.out.size)⟩
  · by_cases h40 : len ≤ 40
    · obtain rfl : len = ks.length := by omega
      have hs : Sl w (.slice (some ⟨g, o, none⟩) ks.length cap) ks := Or.inr ⟨by omega, g, o, cap, rfl, hr⟩
      have o1 : (ks.length : Int) ≤ 40 := by omega
      have HA := Lib.hid hA1
      have HS := Lib.hid hs
      clear hA1 hs hn hr
      go_enter Try.func4, Try.ntmps4
      go_wp2_with fail
      refine (l5_rising HA.out).mono ?_
      rintro e w1 ⟨v, rs, A, rfl, hl, hrise, hown, hb⟩
      have hB1 : Below w.heap.size w w1 := ((Below.refl _ _).alloc (Nat.le_refl _) _).trans (hb.mono (by simp))
      have hS := (hown.sl (by have := hrise.few; omega))
      have H0 : Has w1 w.heap.size #[.int .i64 a, .int .i64 b, .int .i64 c, .int .i64 d] 24 := Has.below has_new0 hb has_new0.lt
      have hL : Sl w1 (.slice (some ⟨g, o, none⟩) ks.length cap) ks := HS.out.below hB1
      have r0 := Later.read H0 0 _ rfl
      have r1 := Later.read H0 1 _ rfl
      have r2 := Later.read H0 2 _ rfl
      have r3 := Later.read H0 3 _ rfl
      have SR := Lib.hid (fun z : Later w1 => hS.below z.below)
      have SL := Lib.hid (fun z : Later w1 => hL.below z.below)
      have HB := Lib.hid hB1
      clear hl hrise hown hb hS H0 hL hB1 HA HS
      obtain ⟨b1, hb1, b10, b11⟩ : ∃ x, bits .and .i64 t 255 = x ∧ 0 ≤ x ∧ x ≤ 255 := ⟨_, rfl, by rw [and_byte]; omega, by rw [and_byte]; omega⟩
      obtain ⟨b2, hb2⟩ : ∃ x, bits .and .i64 t 7 = x := ⟨_, rfl⟩
      obtain ⟨b3, hb3⟩ : ∃ x, bits .and .i64 how 3 = x := ⟨_, rfl⟩
      obtain ⟨b4, hb4⟩ : ∃ x, bits .and .i64 p 65535 = x := ⟨_, rfl⟩
      go_wp2_with fail
      refine wp_region_class (C := fun w' => ∃ z : Later w1, w' = z.to) (by kernel_rfl) (by kernel_rfl) ⟨⟨_, below_drew (Below.refl _ _)⟩, rfl⟩ ?_
      repeat (go_big_quiet_step (first | (go_at_call_of 8 v; exact Later.calls (l5_same (SR.out _) _ _)) | (go_at_call 8; exact Later.calls (l5_same (SL.out _) _ _)) | (go_at_call 9; exact Later.calls (k_goes _ _ _ _ _ _ _)) | (go_at_call 10; exact Later.calls (r5_goes _ _ _ _ _ _ _)) | (go_at_call 11; exact Later.calls (known5 _))))
      refine wpQuiet_nil ?_
      rintro _ ⟨z, rfl⟩
      go_wp2
      go_ret
      exact ⟨rfl, HB.out.trans (z.below.mono HB.out.size)⟩
    · have hn' : ks.length = 40 := by omega
      have hs : Sl w (.slice (some ⟨g, o, none⟩) 40 cap) ks := Or.inr ⟨by omega, g, o, cap, by rw [hn'], hr⟩
      have hA2 : Arg (w.alloc (.cells #[.int .i64 a, .int .i64 b, .int .i64 c, .int .i64 d] 24)) (.slice (some ⟨g, o, none⟩) 40 cap) ks :=
        Or.inr ⟨g, o, 40, cap, rfl, by omega, by omega, h2, by omega, hr.below ((Below.refl _ _).alloc (Nat.le_refl _) _) (hr.lt (by omega))⟩
      have o1 : (40 : Int) < len := by omega
      have o2 : (40 : Int) ≤ cap := by omega
      have HA := Lib.hid hA2
      have HS := Lib.hid hs
      clear hA1 hA2 hs hn hr
      go_enter Try.func4, Try.ntmps4
      go_wp2_with fail
      refine (l5_rising HA.out).mono ?_
      rintro e w1 ⟨v, rs, A, rfl, hl, hrise, hown, hb⟩
      have hB1 : Below w.heap.size w w1 := ((Below.refl _ _).alloc (Nat.le_refl _) _).trans (hb.mono (by simp))
      have hS := (hown.sl (by have := hrise.few; omega))
      have H0 : Has w1 w.heap.size #[.int .i64 a, .int .i64 b, .int .i64 c, .int .i64 d] 24 := Has.below has_new0 hb has_new0.lt
      have hL : Sl w1 (.slice (some ⟨g, o, none⟩) 40 cap) ks := HS.out.below hB1
      have r0 := Later.read H0 0 _ rfl
      have r1 := Later.read H0 1 _ rfl
      have r2 := Later.read H0 2 _ rfl
      have r3 := Later.read H0 3 _ rfl
      have SR := Lib.hid (fun z : Later w1 => hS.below z.below)
      have SL := Lib.hid (fun z : Later w1 => hL.below z.below)
      have HB := Lib.hid hB1
      clear hl hrise hown hb hS H0 hL hB1 HA HS
      obtain ⟨b1, hb1, b10, b11⟩ : ∃ x, bits .and .i64 t 255 = x ∧ 0 ≤ x ∧ x ≤ 255 := ⟨_, rfl, by rw [and_byte]; omega, by rw [and_byte]; omega⟩
      obtain ⟨b2, hb2⟩ : ∃ x, bits .and .i64 t 7 = x := ⟨_, rfl⟩
      obtain ⟨b3, hb3⟩ : ∃ x, bits .and .i64 how 3 = x := ⟨_, rfl⟩
      obtain ⟨b4, hb4⟩ : ∃ x, bits .and .i64 p 65535 = x := ⟨_, rfl⟩
      go_wp2_with fail
      refine wp_region_class (C := fun w' => ∃ z : Later w1, w' = z.to) (by kernel_rfl) (by kernel_rfl) ⟨⟨_, below_drew (Below.refl _ _)⟩, rfl⟩ ?_
      repeat (go_big_quiet_step (first | (go_at_call_of 8 v; exact Later.calls (l5_same (SR.out _) _ _)) | (go_at_call 8; exact Later.calls (l5_same (SL.out _) _ _)) | (go_at_call 9; exact Later.calls (k_goes _ _ _ _ _ _ _)) | (go_at_call 10; exact Later.calls (r5_goes _ _ _ _ _ _ _)) | (go_at_call 11; exact Later.calls (known5 _))))
      refine wpQuiet_nil ?_
      rintro _ ⟨z, rfl⟩
      go_wp2
      go_ret
      exact ⟨rfl, HB.out.trans (z.below.mono HB.out.size)⟩

end Go.Proofs.Yteikhmendjahnaa
