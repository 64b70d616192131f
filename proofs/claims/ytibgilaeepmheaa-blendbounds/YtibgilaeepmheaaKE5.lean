/- Plain arithmetic of keys that rise and go straight or hold: what they tell at a key's tick, between two, moved in time, made greater; a row of keys of which one number is set. -/
import Derived.Test.YtibgilaeepmheaaRI5
import Derived.Test.YtibgilaeepmheaaMidM
namespace Go.Proofs.Ytibgilaeepmheaa
open Go.RowKit
open M

theorem Rise.lt {rs : List Ky} {A : Int} (h : Rise rs A) {i j : Nat} (hij : i < j) (hj : j < rs.length) : (ky rs i).t < (ky rs j).t := by
  induction j with
  | zero => omega
  | succ j ih =>
    have := h.up j hj
    by_cases e : i = j
    · subst e; exact this
    · have := ih (by omega) (by omega); omega
theorem find_key {rs : List Ky} {A : Int} (h : Rise rs A) {n : Nat} (hn : n < rs.length) : find rs (ky rs n).t = n := by
  have : ∀ m, n < m → m ≤ rs.length → findN rs (ky rs n).t m = n := by
    intro m
    induction m with
    | zero => omega
    | succ m ih =>
      intro h1 h2
      by_cases e : n = m
      · subst e; exact findN_hit (Int.le_refl _)
      · have := h.lt (i := n) (j := m) (by omega) (by omega)
        rw [findN_miss (by omega)]
        exact ih (by omega) (by omega)
  exact this _ hn (Nat.le_refl _)
theorem prt_bd (f o t : Int) : 0 ≤ prt f o t ∧ prt f o t ≤ 65536 := by
  rcases part_cases f o t with ⟨_, e⟩ | ⟨_, _, e⟩ | ⟨h1, h2, e⟩
  · rw [e]; omega
  · rw [e]; omega
  · rw [e]; exact quo_bd (by omega) (by omega) (by omega)
theorem goes_bd {h a b c d p : Int} (h0 : 0 ≤ h) (h1 : h ≤ 1) (p0 : 0 ≤ p) (p1 : p ≤ 65536) : 0 ≤ goes h a b c d p ∧ goes h a b c d p ≤ 65536 := by
  have : h = 0 ∨ h = 1 := by omega
  unfold goes
  rcases this with rfl | rfl
  · rw [if_pos rfl]; split <;> omega
  · rw [if_neg (by decide), if_pos rfl]; omega
theorem goes_zero (h a b c d : Int) : goes h a b c d 0 = 0 := by
  unfold goes
  by_cases h0 : h = 0
  · rw [if_pos h0]; rfl
  · rw [if_neg h0]
    by_cases h1 : h = 1
    · rw [if_pos h1]
    · rw [if_neg h1]
      by_cases h2 : h = 2
      · rw [if_pos h2]; exact k4_at0 a b c d
      · rw [if_neg h2]
theorem prt_self (f o : Int) : prt f o f = 0 := by unfold prt; rw [if_pos (Int.le_refl _)]
theorem atk_key {rs : List Ky} {A : Int} (h : Rise rs A) {n : Nat} (hn : n < rs.length) (no : Int) : atk rs (ky rs n).t no = (ky rs n).v := by
  have hf := find_key h hn
  rcases atk_cases rs (ky rs n).t no (by omega) with ⟨e1, _⟩ | ⟨i, e1, _, e2⟩ | ⟨i, e1, hi, e2⟩
  · omega
  · obtain rfl : n = i := by omega
    exact e2
  · obtain rfl : n = i := by omega
    rw [e2]
    unfold tween
    rw [prt_self, goes_zero]
    have a := h.val n hn
    have b := h.val (n + 1) hi
    exact (mid_ends (by omega) (by omega) (by omega) (by omega)).1
theorem tween_in {x y : Ky} {t : Int} (x0 : -67108864 < x.v) (x1 : x.v < 67108864) (y0 : -67108864 < y.v) (y1 : y.v < 67108864) (h0 : 0 ≤ x.h) (h1 : x.h ≤ 1) :
    min x.v y.v ≤ tween x y t ∧ tween x y t ≤ max x.v y.v := by
  unfold tween
  obtain ⟨p0, p1⟩ := prt_bd x.t y.t t
  obtain ⟨g0, g1⟩ := goes_bd (a := x.a) (b := x.b) (c := x.c) (d := x.d) h0 h1 p0 p1
  exact mid_in (by omega) (by omega) (by omega) (by omega) g0 g1

/-- Field j of a key set. -/
def updK (j : Nat) (k : Ky) (x : Int) : Ky := match j with
  | 0 => { k with t := x }
  | 1 => { k with v := x }
  | 2 => { k with h := x }
  | 3 => { k with a := x }
  | 4 => { k with b := x }
  | 5 => { k with c := x }
  | _ => { k with d := x }
theorem kl_upd {j : Nat} (hj : j < 7) (k : Ky) (x : Int) : kl (updK j k x) = (kl k).set j (.int .i64 x) := by
  match j, hj with
  | 0, _ => rfl
  | 1, _ => rfl
  | 2, _ => rfl
  | 3, _ => rfl
  | 4, _ => rfl
  | 5, _ => rfl
  | 6, _ => rfl
theorem kls_upd {qs : List Ky} {n j : Nat} (hn : n < qs.length) (hj : j < 7) (x : Int) : kls (qs.set n (updK j (ky qs n) x)) = (kls qs).set (n * 7 + j) (.int .i64 x) := by
  induction qs generalizing n with
  | nil => simp at hn
  | cons k qs ih =>
    cases n with
    | zero => rw [List.set_cons_zero, kls_cons, kls_cons, ky_zero, kl_upd hj, Nat.zero_mul, Nat.zero_add, List.set_append_left _ _ (by simpa [kl] using hj)]
    | succ n =>
      rw [List.set_cons_succ, kls_cons, kls_cons, ky_cons, ih (by simpa using hn), List.set_append_right _ _ (by simp [kl]; omega)]
      congr 2
      simp [kl]; omega
theorem ky_set_eq {qs : List Ky} {n : Nat} (hn : n < qs.length) (k : Ky) : ky (qs.set n k) n = k := by unfold ky; simp [List.getD, hn]
theorem ky_set_ne {qs : List Ky} {n i : Nat} (h : n ≠ i) (k : Ky) : ky (qs.set n k) i = ky qs i := by unfold ky; simp [List.getD, h]
theorem set_set {qs : List Ky} {n : Nat} (k l : Ky) : (qs.set n k).set n l = qs.set n l := by simp
theorem set_self (qs : List Ky) (n : Nat) : qs.set n (ky qs n) = qs := by
  apply List.ext_getElem?
  intro i
  by_cases e : n = i
  · subst e
    by_cases h : n < qs.length
    · unfold ky; simp [List.getD, h]
    · rw [List.getElem?_eq_none (by simp; omega), List.getElem?_eq_none (by omega)]
  · simp [e]
theorem Rise.set {rs : List Ky} {A : Int} (h : Rise rs A) {n : Nat} {k : Ky} (ht : k.t = (ky rs n).t) (hv : -67108864 < k.v ∧ k.v < 67108864) (hh : 0 ≤ k.h ∧ k.h ≤ 2) : Rise (rs.set n k) A := by
  have e : ∀ i, i < rs.length → (ky (rs.set n k) i).t = (ky rs i).t := by
    intro i hi
    by_cases e : n = i
    · subst e; rw [ky_set_eq hi, ht]
    · rw [ky_set_ne e]
  refine ⟨by simpa using h.few, by simpa using h.top, h.bot, ?_, ?_, ?_, ?_⟩
  · intro i hi
    simp at hi
    rw [e i hi]; exact h.tick i hi
  · intro i hi
    simp at hi
    by_cases e : n = i
    · subst e; rw [ky_set_eq hi]; exact hv
    · rw [ky_set_ne e]; exact h.val i hi
  · intro i hi
    simp at hi
    by_cases e : n = i
    · subst e; rw [ky_set_eq hi]; exact hh
    · rw [ky_set_ne e]; exact h.how i hi
  · intro i hi
    simp at hi
    rw [e i (by omega), e (i + 1) hi]; exact h.up i hi
end Go.Proofs.Ytibgilaeepmheaa
