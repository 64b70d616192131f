/- Rows of keys of colours that a call has made: what they hold, one number of one key stored, one key more. -/
import Derived.Test.YtibgilaeepmheaaHK
import Derived.Test.YtibgilaeepmheaaApp
namespace Go.Proofs.Ytibgilaeepmheaa
open Go.RowKit
open M

/-- A colour key's cells, as a list; a list of keys' cells. -/
def cl (k : Ck) : List Value := [.int .i64 k.t, .int .u8 k.p.r, .int .u8 k.p.g, .int .u8 k.p.b, .int .u8 k.p.q, .int .i64 k.h, .int .i64 k.a, .int .i64 k.b, .int .i64 k.c, .int .i64 k.d]
def cls (ks : List Ck) : List Value := ks.flatMap cl
theorem cls_cons (k : Ck) (ks : List Ck) : cls (k :: ks) = cl k ++ cls ks := by simp [cls]
theorem cls_snoc (ks : List Ck) (k : Ck) : cls (ks ++ [k]) = cls ks ++ cl k := by simp [cls]
theorem cls_length (ks : List Ck) : (cls ks).length = ks.length * 10 := by
  induction ks with
  | nil => rfl
  | cons k ks ih => rw [cls_cons, List.length_append, ih]; simp [cl]; omega
theorem ck_cons (k : Ck) (ks : List Ck) (i : Nat) : ck (k :: ks) (i + 1) = ck ks i := by simp [ck]
theorem ck_zero (k : Ck) (ks : List Ck) : ck (k :: ks) 0 = k := by simp [ck]
theorem cls_at {ks : List Ck} {i j : Nat} (hi : i < ks.length) (hj : j < 10) : (cls ks)[i * 10 + j]? = (cl (ck ks i))[j]? := by
  induction ks generalizing i with
  | nil => simp at hi
  | cons k ks ih =>
    rw [cls_cons]
    cases i with
    | zero => rw [ck_zero, Nat.zero_mul, Nat.zero_add, List.getElem?_append_left (by simpa [cl] using hj)]
    | succ i =>
      rw [ck_cons, List.getElem?_append_right (by simp [cl]; omega)]
      rw [← ih (by simpa using hi)]
      congr 1
      simp [cl]; omega
theorem one_cl (k : Ck) : ∀ u ∈ cl k, u.oneCell' = true := by
  intro u hu
  simp [cl] at hu
  rcases hu with rfl | rfl | rfl | rfl | rfl | rfl | rfl | rfl | rfl | rfl <;> rfl
theorem crow_of {w : World} {g o : Nat} {ks : List Ck} (hf : ks.length ≤ 8796093022208) (hk : ∀ i, i < ks.length → (ck ks i).p.Ok) (h : ∀ j u, (cls ks)[j]? = some u → w.cell? ⟨g, o + j, none⟩ = some u) : Crow w g o ks := by
  have key : ∀ i j u, i < ks.length → j < 10 → (cl (ck ks i))[j]? = some u → w.cell? ⟨g, o + i * 10 + j, none⟩ = some u := by
    intro i j u hi hj hu
    rw [Nat.add_assoc]
    exact h _ _ ((cls_at hi hj).trans hu)
  exact ⟨hf, hk, fun i hi => key i 0 _ hi (by omega) rfl, fun i hi => key i 1 _ hi (by omega) rfl, fun i hi => key i 2 _ hi (by omega) rfl, fun i hi => key i 3 _ hi (by omega) rfl, fun i hi => key i 4 _ hi (by omega) rfl, fun i hi => key i 5 _ hi (by omega) rfl, fun i hi => key i 6 _ hi (by omega) rfl, fun i hi => key i 7 _ hi (by omega) rfl, fun i hi => key i 8 _ hi (by omega) rfl, fun i hi => key i 9 _ hi (by omega) rfl⟩
theorem crow_has {w : World} {g : Nat} {ks : List Ck} {cs : Array Value} {t : TypeId} (hf : ks.length ≤ 8796093022208) (hk : ∀ i, i < ks.length → (ck ks i).p.Ok) (h : Has w g cs t) (hc : cs.toList = cls ks) : Crow w g 0 ks := by
  refine crow_of hf hk fun j u hu => ?_
  rw [Nat.zero_add]
  refine h.cell j u ?_
  rw [← hc] at hu
  simpa using hu
theorem csl_lit {w : World} {g : Nat} {ks : List Ck} {cs : Array Value} {t : TypeId} (n c : Nat) (hn : ks.length = n) (h0 : 0 < n) (hf : n ≤ 8796093022208) (hk : ∀ i, i < ks.length → (ck ks i).p.Ok) (h : Has w g cs t) (hc : cs.toList = cls ks) : Csl w (.slice (some ⟨g, 0, none⟩) n c) ks := by
  subst hn
  exact Or.inr ⟨h0, g, 0, c, rfl, crow_has hf hk h hc⟩
theorem ten_cells {w : World} {k : Ck} {t : TypeId} {g : Nat} (hg : w.heap.size = g) : ∀ j u, (cl k)[j]? = some u → (w.alloc (.cells (kkCells k) t)).cell? ((⟨g, 0, none⟩ : Addr).add j) = some u := by
  intro j u hj
  subst hg
  match j, hj with
  | 0, hj => simp [cl] at hj; subst hj; simp [Addr.add]
  | 1, hj => simp [cl] at hj; subst hj; simp [Addr.add]
  | 2, hj => simp [cl] at hj; subst hj; simp [Addr.add]
  | 3, hj => simp [cl] at hj; subst hj; simp [Addr.add]
  | 4, hj => simp [cl] at hj; subst hj; simp [Addr.add]
  | 5, hj => simp [cl] at hj; subst hj; simp [Addr.add]
  | 6, hj => simp [cl] at hj; subst hj; simp [Addr.add]
  | 7, hj => simp [cl] at hj; subst hj; simp [Addr.add]
  | 8, hj => simp [cl] at hj; subst hj; simp [Addr.add]
  | 9, hj => simp [cl] at hj; subst hj; simp [Addr.add]

/-- One cell of a colour key set: the number (not a part of the colour). -/
def cupd (j : Nat) (k : Ck) (x : Int) : Ck := match j with
  | 0 => { k with t := x }
  | 5 => { k with h := x }
  | 6 => { k with a := x }
  | 7 => { k with b := x }
  | 8 => { k with c := x }
  | _ => { k with d := x }
def isNum (j : Nat) : Bool := j == 0 || (decide (5 ≤ j) && decide (j ≤ 9))
theorem cl_upd {j : Nat} (hj : isNum j = true) (k : Ck) (x : Int) : cl (cupd j k x) = (cl k).set j (.int .i64 x) := by
  have h : j = 0 ∨ j = 5 ∨ j = 6 ∨ j = 7 ∨ j = 8 ∨ j = 9 := by simp [isNum] at hj; omega
  rcases h with rfl | rfl | rfl | rfl | rfl | rfl <;> rfl
theorem isNum_lt {j : Nat} (hj : isNum j = true) : j < 10 := by simp [isNum] at hj; omega
theorem cls_upd {qs : List Ck} {n j : Nat} (hn : n < qs.length) (hj : isNum j = true) (x : Int) : cls (qs.set n (cupd j (ck qs n) x)) = (cls qs).set (n * 10 + j) (.int .i64 x) := by
  have h10 := isNum_lt hj
  induction qs generalizing n with
  | nil => simp at hn
  | cons k qs ih =>
    cases n with
    | zero => rw [List.set_cons_zero, cls_cons, cls_cons, ck_zero, cl_upd hj, Nat.zero_mul, Nat.zero_add, List.set_append_left _ _ (by simpa [cl] using h10)]
    | succ n =>
      rw [List.set_cons_succ, cls_cons, cls_cons, ck_cons, ih (by simpa using hn), List.set_append_right _ _ (by simp [cl]; omega)]
      congr 2
      simp [cl]; omega
theorem ck_set_eq {qs : List Ck} {n : Nat} (hn : n < qs.length) (k : Ck) : ck (qs.set n k) n = k := by unfold ck; simp [List.getD, hn]
theorem ck_set_ne {qs : List Ck} {n i : Nat} (h : n ≠ i) (k : Ck) : ck (qs.set n k) i = ck qs i := by unfold ck; simp [List.getD, h]
theorem ck_left {rs : List Ck} {k : Ck} {i : Nat} (h : i < rs.length) : ck (rs ++ [k]) i = ck rs i := by
  unfold ck; simp [List.getD, List.getElem?_append_left h]
theorem ck_last (rs : List Ck) (k : Ck) : ck (rs ++ [k]) rs.length = k := by unfold ck; simp [List.getD]
theorem cset_self (qs : List Ck) (n : Nat) : qs.set n (ck qs n) = qs := by
  apply List.ext_getElem?
  intro i
  by_cases e : n = i
  · subst e
    by_cases h : n < qs.length
    · unfold ck; simp [List.getD, h]
    · rw [List.getElem?_eq_none (by simp; omega), List.getElem?_eq_none (by omega)]
  · simp [e]
end Go.Proofs.Ytibgilaeepmheaa
