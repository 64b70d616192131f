/- Contract of key.At: for all keys, ticks and numbers what the plain arithmetic says; of the memory nothing that was there turns. -/
import Derived.Test.YtglbfpjjnboeaaaGreatK5
namespace Go.Proofs.YtglbfpjjnboeaaaGreat
open Go.RowKit
open M

theorem atk_cases (ks : List Ky) (t no : Int) (h : 0 < ks.length) : (find ks t = -1 ∧ atk ks t no = (ky ks 0).v) ∨
    (∃ i : Nat, find ks t = i ∧ i + 1 = ks.length ∧ atk ks t no = (ky ks i).v) ∨ (∃ i : Nat, find ks t = i ∧ i + 1 < ks.length ∧ atk ks t no = tween (ky ks i) (ky ks (i + 1)) t) := by
  have hb := find_bd ks t
  unfold atk
  rw [if_neg (by omega)]
  by_cases h0 : find ks t < 0
  · exact Or.inl ⟨by omega, if_pos h0⟩
  · rw [if_neg h0]
    obtain ⟨i, hi⟩ := Int.eq_ofNat_of_zero_le (show 0 ≤ find ks t by omega)
    rw [hi]
    by_cases h1 : i + 1 = ks.length
    · exact Or.inr (Or.inl ⟨i, rfl, h1, if_pos (by omega)⟩)
    · refine Or.inr (Or.inr ⟨i, rfl, by omega, ?_⟩)
      rw [if_neg (by omega)]
      rfl

theorem Row.later {W : World} {g o : Nat} {ks : List Ky} (h : Row W g o ks) (hn : 0 < ks.length) (z : Later W) : Row z.to g o ks := h.below z.below (h.lt hn)

theorem k_at0 (ao : Option Addr) (cap : Nat) (t no : Int) (w : World) :
    Calls Tryz.prog 46 #[.slice ao 0 cap, .int .i64 t, .int .i64 no] w fun e w' => e = .returned (.int .i64 no) ∧ Below w.heap.size w w' := by
  go_enter Tryz.func46, Tryz.ntmps46
  go_wp2
  go_ret
  exact ⟨rfl, Below.refl _ _⟩

set_option maxHeartbeats 1000000 in
theorem k_at1 (g o cap : Nat) (ks : List Ky) (t no : Int) (w : World) (hr : Row w g o ks) (hn : 0 < ks.length) :
    Calls Tryz.prog 46 #[.slice (some ⟨g, o, none⟩) ks.length cap, .int .i64 t, .int .i64 no] w fun e w' => e = .returned (.int .i64 (atk ks t no)) ∧ Below w.heap.size w w' := by
  have hf := hr.few
  have cf := fun w' (hb : Row w' g o ks) => k_find1 g o cap ks t w' hb
  rcases atk_cases ks t no hn with ⟨e1, e2⟩ | ⟨i, e1, hi, e2⟩ | ⟨i, e1, hi, e2⟩
  · rw [e2]
    rw [e1] at cf
    have c1 := hr.c1 0 hn
    rw [Nat.zero_mul, Nat.add_zero] at c1
    have HR := Lib.hid hr
    have CF := Lib.hid cf
    clear hr cf e1 e2
    go_enter Tryz.func46, Tryz.ntmps46
    go_wp2_with (go_at_call 72; refine (CF.out _ HR.out).mono ?_; rintro e w' ⟨rfl, rfl⟩)
    go_ret
    exact ⟨rfl, Below.refl _ _⟩
  · rw [e2]
    rw [e1] at cf
    have c1 := hr.c1 i (by omega)
    have hl : (ks.length : Int) - 1 = (i : Int) := by omega
    have HR := Lib.hid hr
    have CF := Lib.hid cf
    clear hr cf e1 e2
    go_enter Tryz.func46, Tryz.ntmps46
    go_wp2_with (go_at_call 72; refine (CF.out _ HR.out).mono ?_; rintro e w' ⟨rfl, rfl⟩)
    go_ret
    exact ⟨rfl, Below.refl _ _⟩
  · rw [e2]
    rw [e1] at cf
    have hr' := hr.later hn
    have c0 := fun z => (hr' z).c0 i (by omega)
    have c1 := fun z => (hr' z).c1 i (by omega)
    have c2 := fun z => (hr' z).c2 i (by omega)
    have c3 := fun z => (hr' z).c3 i (by omega)
    have c4 := fun z => (hr' z).c4 i (by omega)
    have c5 := fun z => (hr' z).c5 i (by omega)
    have c6 := fun z => (hr' z).c6 i (by omega)
    have d0 := fun z => (hr' z).c0 (i + 1) (by omega)
    have d1 := fun z => (hr' z).c1 (i + 1) (by omega)
    have d2 := fun z => (hr' z).c2 (i + 1) (by omega)
    have d3 := fun z => (hr' z).c3 (i + 1) (by omega)
    have d4 := fun z => (hr' z).c4 (i + 1) (by omega)
    have d5 := fun z => (hr' z).c5 (i + 1) (by omega)
    have d6 := fun z => (hr' z).c6 (i + 1) (by omega)
    have o1 : (i : Int) < ks.length := by omega
    have o2 : (i : Int) + 1 < ks.length := by omega
    have o3 : ¬ ((i : Int) = ks.length - 1) := by omega
    have HR := Lib.hid hr
    have CF := Lib.hid cf
    clear hr hr' cf e1 e2
    go_enter Tryz.func46, Tryz.ntmps46
    go_wp2_with (first | (go_at_call 72; refine (CF.out _ HR.out).mono ?_; rintro e w' ⟨rfl, rfl⟩))
    refine wp_region_class (C := fun w' => ∃ z : Later w, w' = z.to) (by kernel_rfl) (by kernel_rfl) ⟨⟨_, below_drew (Below.refl _ _)⟩, rfl⟩ ?_
    repeat (go_big_quiet_step (first | (go_at_call 73; exact Later.calls (k_between (ky ks i) (ky ks (i + 1)) _ _))))
    refine wpQuiet_nil ?_
    rintro _ ⟨z, rfl⟩
    go_wp2
    go_ret
    exact ⟨rfl, z.below⟩
theorem k_at {v : Value} {ks : List Ky} {w : World} (h : Sl w v ks) (t no : Int) :
    Calls Tryz.prog 46 #[v, .int .i64 t, .int .i64 no] w fun e w' => e = .returned (.int .i64 (atk ks t no)) ∧ Below w.heap.size w w' := by
  rcases h with ⟨rfl, ao, cap, rfl⟩ | ⟨hn, g, o, cap, rfl, hr⟩
  · exact k_at0 ao cap t no w
  · exact k_at1 g o cap ks t no w hr hn

end Go.Proofs.YtglbfpjjnboeaaaGreat
