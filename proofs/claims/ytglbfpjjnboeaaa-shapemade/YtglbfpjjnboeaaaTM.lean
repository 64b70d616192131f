/- Plain facts of the lists that a tape's Shape makes: keys with one more at 60 are right; what they tell at a tick is small. No program is named here. -/
import Derived.Test.YtglbfpjjnboeaaaTG
import Derived.Test.YtglbfpjjnboeaaaMk2
namespace Go.Proofs.Ytglbfpjjnboeaaa
open Go.RowKit
open M

/-- Keys of a tape with one more at 60 behind them. -/
structure K60 (lo hi : Int) (ks : List Ky) : Prop where
  pos : 0 < ks.length
  few : ks.length ≤ 4
  right : M.right ks = true
  num : ∀ i, i < ks.length → lo * 65536 ≤ (ky ks i).v ∧ (ky ks i).v ≤ hi * 65536 + 65535
  how : ∀ i, i < ks.length → okHow (ky ks i).h (ky ks i).a (ky ks i).b (ky ks i).c (ky ks i).d = true
  tick : ∀ i, i < ks.length → 0 ≤ (ky ks i).t ∧ (ky ks i).t ≤ 60
theorem okK_how {k : Ky} (h : okK k = true) : okHow k.h k.a k.b k.c k.d = true := by
  unfold okK at h
  simp at h
  exact h.2
theorem rightN_each {ks : List Ky} : ∀ {n : Nat}, rightN ks n = true → ∀ i, i < n → okK (ky ks i) = true
  | 0, _, i, hi => by omega
  | n + 1, h, i, hi => by
    unfold rightN at h
    simp only [Bool.and_eq_true] at h
    by_cases e : i = n
    · subst e; exact h.1.2
    · exact rightN_each h.1.1 i (by omega)
theorem K60.of {lo hi : Int} {qs : List Ky} {A v : Int} (h : KeptG lo hi qs A) (hl : qs.length ≤ 3) (l0 : 0 ≤ lo) (h1 : hi ≤ 14) (v0 : lo * 65536 ≤ v) (v1 : v ≤ hi * 65536 + 65535) : K60 lo hi (qs ++ [Ky.mk 60 v 0 0 0 0 0]) := by
  have top := h.kept.top
  have ok : okK (Ky.mk 60 v 0 0 0 0 0) = true := okK_of2 (by omega) (by omega) (by omega) (by omega) rfl
  have rn : rightN (qs ++ [Ky.mk 60 v 0 0 0 0 0]) (qs.length + 1) = true := by
    unfold rightN
    rw [rightN_left (Nat.le_refl _), h.kept.right, ky_last, ok]
    by_cases e : qs.length = 0
    · simp [e]
    · rw [ky_left (by omega)]
      have := h.kept.last (by omega)
      simp
      omega
  have each : ∀ (P : Ky → Prop), (∀ i, i < qs.length → P (ky qs i)) → P (Ky.mk 60 v 0 0 0 0 0) → ∀ i, i < (qs ++ [Ky.mk 60 v 0 0 0 0 0]).length → P (ky (qs ++ [Ky.mk 60 v 0 0 0 0 0]) i) := by
    intro P h1 h2 i hi
    simp at hi
    by_cases e : i < qs.length
    · rw [ky_left e]; exact h1 i e
    · obtain rfl : i = qs.length := by omega
      rw [ky_last]; exact h2
  refine ⟨by simp, by simp; omega, ?_, each (fun k => lo * 65536 ≤ k.v ∧ k.v ≤ hi * 65536 + 65535) h.num (show lo * 65536 ≤ v ∧ v ≤ hi * 65536 + 65535 from ⟨v0, v1⟩), each (fun k => okHow k.h k.a k.b k.c k.d = true) (fun i hi => okK_how (rightN_each h.kept.right i hi)) rfl,
    each (fun k => 0 ≤ k.t ∧ k.t ≤ 60) (fun i hi => And.intro (h.tick i hi) (by have := h.ahead i hi; omega)) (by simp)⟩
  unfold M.right
  rw [List.length_append]
  show (_ && rightN _ (qs.length + 1)) = true
  rw [rn]
  simp
  omega
/-- What such keys tell at any tick is small. -/
theorem K60.tells {lo hi : Int} {ks : List Ky} (h : K60 lo hi ks) (l0 : 0 ≤ lo) (h1 : hi ≤ 14) (t : Int) : -33554432 ≤ atk ks t 0 ∧ atk ks t 0 ≤ 33554432 := by
  have hb := find_bd ks t
  have p := h.pos
  unfold atk
  rw [if_neg (by omega)]
  split
  · have := h.num 0 p; omega
  · obtain ⟨i, hi⟩ := Int.eq_ofNat_of_zero_le (show 0 ≤ find ks t by omega)
    rw [hi]
    split
    · have := h.num i (by omega); simp only [Int.toNat_natCast]; omega
    · simp only [Int.toNat_natCast]
      have a := h.num i (by omega)
      have b := h.num (i + 1) (by omega)
      unfold tween
      have pb := prt_bd (ky ks i).t (ky ks (i + 1)).t t
      have gb := goes_wide (h.how i (by omega)) pb.1 pb.2
      exact mid_wide (by omega) (by omega) (by omega) (by omega) gb.1 gb.2

end Go.Proofs.Ytglbfpjjnboeaaa
