/- Rows of keys of colours that a call has made: what they hold, one number of one key stored, one key more. -/
import Derived.Test.YtglbfpjjnboeaaaHK
import Derived.Test.YtglbfpjjnboeaaaApp
namespace Go.Proofs.Ytglbfpjjnboeaaa
open Go.RowKit
open M

/-- A colour key's cells, as a list; a list of keys' cells. -/
def cl (k : Ck) : List Value := [.int .i64 k.t, .int .u8 k.p.r, .int .u8 k.p.g, .int .u8 k.p.b, .int .u8 k.p.q, .int .i64 k.h, .int .i64 k.a, .int .i64 k.b, .int .i64 k.c, .int .i64 k.d]
def cls (ks : List Ck) : List Value := ks.flatMap cl
theorem cls_cons (k : Ck) (ks : List Ck) : cls (k :: ks) = cl k ++ cls ks := by simp [cls]
theorem cls_snoc (ks : List Ck) (k : Ck) : cls (ks ++ [k]) = cls ks ++ cl k := by simp [cls]
theorem cls_length (ks : List Ck) : (cls ks).length = ks.length * 10 := by
  induction ks with
  | nil => rfl
  | cons k ks ih => rw [cls_cons, List.length_append, ih]; simp [cl]; omega
theorem ck_cons (k : Ck) (ks : List Ck) (i : Nat) : ck (k :: ks) (i + 1) = ck ks i := by simp [ck]
theorem ck_zero (k : Ck) (ks : List Ck) : ck (k :: ks) 0 = k := by simp [ck]
theorem cls_at {ks : List Ck} {i j : Nat} (hi : i < ks.length) (hj : j < 10) : (cls ks)[i * 10 + j]? = (cl (ck ks i))[j]? := by
  induction ks generalizing i with
  | nil => simp at hi
  | cons k ks ih =>
    rw [cls_cons]
    cases i with
    | zero => rw [ck_zero, Nat.zero_mul, Nat.zero_add, List.getElem?_append_left (by simpa [cl] using hj)]
    | succ i =>
      rw [ck_cons, List.getElem?_append_right (by simp [cl]; omega)]
      rw [← ih (by simpa using hi)]
      congr 1
      simp [cl]; omega
theorem one_cl (k : Ck) : ∀ u ∈ cl k, u.oneCell' = true := by
  intro u hu
  simp [cl] at hu
  rcases hu with rfl | rfl | rfl | rfl | rfl | rfl | rfl | rfl | rfl | rfl <;> rfl
theorem crow_of {w : World} {g o : Nat} {ks : List Ck} (hf : ks.length ≤ 8796093022208) (hk : ∀ i, i < ks.length → (ck ks i).p.Ok) (h : ∀ j u, (cls ks)[j]? = some u → w.cell? ⟨g, o + j, none⟩ = some u) : Crow w g o ks := by
  have key : ∀ i j u, i < ks.length → j < 10 → (cl (ck ks i))[j]? = some u → w.cell? ⟨g, o + i * 10 + j, none⟩ = some u := by
    intro i j u hi hj hu
    rw [Nat.add_assoc]
    exact h _ _ ((cls_at hi hj).trans hu)
  exact ⟨hf, hk, fun i hi => key i 0 _ hi (by omega) rfl, fun i hi => key i 1 _ hi (by omega) rfl, fun i hi => key i 2 _ hi (by omega) rfl, fun i hi => key i 3 _ hi (by omega) rfl, fun i hi => key i 4 _ hi (by omega) rfl, fun i hi => key i 5 _ hi (by omega) rfl, fun i hi => key i 6 _ hi (by omega) rfl, fun i hi => key i 7 _ hi (by omega) rfl, fun i hi => key i 8 _ hi (by omega) rfl, fun i hi => key i 9 _ hi (by omega) rfl⟩
theorem crow_has {w : World} {g : Nat} {ks : List Ck} {cs : Array Value} {t : TypeId} (hf : ks.length ≤ 8796093022208) (hk : ∀ i, i < ks.length → (ck ks i).p.Ok) (h : Has w g cs t) (hc : cs.toList = cls ks) : Crow w g 0 ks := by
  refine crow_of hf hk fun j u hu => ?_
  rw [Nat.zero_add]
  refine h.cell j u ?_
  rw [← hc] at hu
  simpa using hu
theorem csl_lit {w : World} {g : Nat} {ks : List Ck} {cs : Array Value} {t : TypeId} (n c : Nat) (hn : ks.length = n) (h0 : 0 < n) (hf : n ≤ 8796093022208) (hk : ∀ i, i < ks.length → (ck ks i).p.Ok) (h : Has w g cs t) (hc : cs.toList = cls ks) : Csl w (.slice (some ⟨g, 0, none⟩) n c) ks := by
  subst hn
  exact Or.inr ⟨h0, g, 0, c, rfl, crow_has hf hk h hc⟩
/-- The value v of a call's own holds just these keys, in its own blocks from 'base' on. -/
def Cown (w : World) (base : Nat) (v : Value) (ks : List Ck) : Prop := w.ownsRow base 67 10 v ks.length (cls ks)
theorem Cown.sl {w : World} {base : Nat} {v : Value} {ks : List Ck} (h : Cown w base v ks) (hf : ks.length ≤ 8796093022208) (hk : ∀ i, i < ks.length → (ck ks i).p.Ok) : Csl w v ks := by
  by_cases h0 : ks.length = 0
  · obtain rfl : ks = [] := List.eq_nil_of_length_eq_zero h0
    refine Or.inl ⟨rfl, ?_⟩
    rcases h.2 with ⟨rfl, _⟩ | ⟨g, cap, cur, rfl, _⟩
    · exact ⟨_, _, rfl⟩
    · exact ⟨_, _, rfl⟩
  · refine Or.inr ⟨by omega, ?_⟩
    rcases h.2 with ⟨_, hn⟩ | ⟨g, cap, cur, rfl, _, hg, _, _, _, ht⟩
    · exact absurd hn h0
    · refine ⟨g, 0, cap, rfl, crow_of hf hk fun j u hu => ?_⟩
      rw [Nat.zero_add, cell_of_row w g j cur _ _ hg]
      rw [← ht, List.getElem?_take] at hu
      split at hu
      · simpa using hu
      · cases hu
theorem Cown.nil (w : World) (base : Nat) : Cown w base (.slice none 0 0) [] := World.ownsRow_nil _ _ _ _
theorem Cown.alloc {w : World} {base : Nat} {v : Value} {ks : List Ck} (h : Cown w base v ks) (o : Obj) : Cown (w.alloc o) base v ks := World.ownsRow.alloc h o
theorem Cown.snoc {w : World} {base : Nat} {v : Value} {ks : List Ck} {k : Ck} (h : w.ownsRow base 67 10 v (ks.length + 1) (cls ks ++ cl k)) : Cown w base v (ks ++ [k]) := by
  unfold Cown
  rw [cls_snoc, List.length_append]
  exact h
theorem Try.infoCk : (Try.prog.info? 67).map (fun i => (i.zero, i.size, i.bytes)) = some (some (.agg #[.int .i64 0, .int .u8 0, .int .u8 0, .int .u8 0, .int .u8 0, .int .i64 0, .int .i64 0, .int .i64 0, .int .i64 0, .int .i64 0]), 10, 56) := by kernel_rfl
theorem ten_cells {w : World} {k : Ck} {t : TypeId} {g : Nat} (hg : w.heap.size = g) : ∀ j u, (cl k)[j]? = some u → (w.alloc (.cells (kkCells k) t)).cell? ((⟨g, 0, none⟩ : Addr).add j) = some u := by
  intro j u hj
  subst hg
  match j, hj with
  | 0, hj => simp [cl] at hj; subst hj; simp [Addr.add]
  | 1, hj => simp [cl] at hj; subst hj; simp [Addr.add]
  | 2, hj => simp [cl] at hj; subst hj; simp [Addr.add]
  | 3, hj => simp [cl] at hj; subst hj; simp [Addr.add]
  | 4, hj => simp [cl] at hj; subst hj; simp [Addr.add]
  | 5, hj => simp [cl] at hj; subst hj; simp [Addr.add]
  | 6, hj => simp [cl] at hj; subst hj; simp [Addr.add]
  | 7, hj => simp [cl] at hj; subst hj; simp [Addr.add]
  | 8, hj => simp [cl] at hj; subst hj; simp [Addr.add]
  | 9, hj => simp [cl] at hj; subst hj; simp [Addr.add]

/-- One cell of a colour key set: the number (not a part of the colour). -/
def cupd (j : Nat) (k : Ck) (x : Int) : Ck := match j with
  | 0 => { k with t := x }
  | 5 => { k with h := x }
  | 6 => { k with a := x }
  | 7 => { k with b := x }
  | 8 => { k with c := x }
  | _ => { k with d := x }
def isNum (j : Nat) : Bool := j == 0 || (decide (5 ≤ j) && decide (j ≤ 9))
theorem cl_upd {j : Nat} (hj : isNum j = true) (k : Ck) (x : Int) : cl (cupd j k x) = (cl k).set j (.int .i64 x) := by
  have h : j = 0 ∨ j = 5 ∨ j = 6 ∨ j = 7 ∨ j = 8 ∨ j = 9 := by simp [isNum] at hj; omega
  rcases h with rfl | rfl | rfl | rfl | rfl | rfl <;> rfl
theorem isNum_lt {j : Nat} (hj : isNum j = true) : j < 10 := by simp [isNum] at hj; omega
theorem cls_upd {qs : List Ck} {n j : Nat} (hn : n < qs.length) (hj : isNum j = true) (x : Int) : cls (qs.set n (cupd j (ck qs n) x)) = (cls qs).set (n * 10 + j) (.int .i64 x) := by
  have h10 := isNum_lt hj
  induction qs generalizing n with
  | nil => simp at hn
  | cons k qs ih =>
    cases n with
    | zero => rw [List.set_cons_zero, cls_cons, cls_cons, ck_zero, cl_upd hj, Nat.zero_mul, Nat.zero_add, List.set_append_left _ _ (by simpa [cl] using h10)]
    | succ n =>
      rw [List.set_cons_succ, cls_cons, cls_cons, ck_cons, ih (by simpa using hn), List.set_append_right _ _ (by simp [cl]; omega)]
      congr 2
      simp [cl]; omega
theorem ck_set_eq {qs : List Ck} {n : Nat} (hn : n < qs.length) (k : Ck) : ck (qs.set n k) n = k := by unfold ck; simp [List.getD, hn]
theorem ck_set_ne {qs : List Ck} {n i : Nat} (h : n ≠ i) (k : Ck) : ck (qs.set n k) i = ck qs i := by unfold ck; simp [List.getD, h]
theorem ck_left {rs : List Ck} {k : Ck} {i : Nat} (h : i < rs.length) : ck (rs ++ [k]) i = ck rs i := by
  unfold ck; simp [List.getD, List.getElem?_append_left h]
theorem ck_last (rs : List Ck) (k : Ck) : ck (rs ++ [k]) rs.length = k := by unfold ck; simp [List.getD]
theorem cset_self (qs : List Ck) (n : Nat) : qs.set n (ck qs n) = qs := by
  apply List.ext_getElem?
  intro i
  by_cases e : n = i
  · subst e
    by_cases h : n < qs.length
    · unfold ck; simp [List.getD, h]
    · rw [List.getElem?_eq_none (by simp; omega), List.getElem?_eq_none (by omega)]
  · simp [e]
theorem Cown.put' {w : World} {B g cap N n : Nat} {qs : List Ck} {k : Ck} (h : Cown w B (.slice (some ⟨g, 0, none⟩) N cap) (qs.set n k)) (hN : qs.length = N) (hn : n < N) (j c : Nat) (hj : isNum j = true) (hc : c = n * 10 + j) (x : Int) :
    Cown (w.setCell ⟨g, c, none⟩ (.int .i64 x)) B (.slice (some ⟨g, 0, none⟩) N cap) (qs.set n (cupd j k x)) := by
  subst hc
  subst hN
  unfold Cown at h ⊢
  have e : cls (qs.set n (cupd j k x)) = (cls (qs.set n k)).set (n * 10 + j) (.int .i64 x) := by
    have := cls_upd (qs := qs.set n k) (n := n) (j := j) (by simpa using hn) hj x
    rw [ck_set_eq hn, List.set_set] at this
    exact this
  rw [e, List.length_set] at *
  exact (World.ownsRow.stored h _ _).1
theorem Cown.base {w : World} {B g cap N : Nat} {qs : List Ck} (h : Cown w B (.slice (some ⟨g, 0, none⟩) N cap) qs) : B ≤ g ∧ g < w.heap.size := World.ownsRow.lt h g rfl
theorem Cown.fro {w : World} {B g cap N : Nat} {qs : List Ck} (h : Cown w B (.slice (some ⟨g, 0, none⟩) N cap) qs) (hN : qs.length = N) (j : Nat) : w.frozen? ⟨g, j, none⟩ = false := by
  unfold Cown at h
  rw [hN] at h
  exact World.ownsRow.frozenAt h j
theorem Cown.shape {w : World} {B : Nat} {v : Value} {qs : List Ck} (h : Cown w B v qs) (h0 : 0 < qs.length) : ∃ g cap, v = .slice (some ⟨g, 0, none⟩) qs.length cap := by
  rcases h.2 with ⟨_, hn⟩ | ⟨g, cap, cur, rfl, _⟩
  · omega
  · exact ⟨g, cap, rfl⟩
theorem Cown.row {w : World} {B g cap N : Nat} {qs : List Ck} (h : Cown w B (.slice (some ⟨g, 0, none⟩) N cap) qs) (hf : qs.length ≤ 8796093022208) (hk : ∀ i, i < qs.length → (ck qs i).p.Ok) (h0 : 0 < qs.length) : Crow w g 0 qs := by
  rcases h.sl hf hk with ⟨rfl, _⟩ | ⟨_, g', o, cap', hv, hr⟩
  · simp at h0
  · simp at hv
    obtain ⟨⟨rfl, rfl⟩, _⟩ := hv
    exact hr

end Go.Proofs.Ytglbfpjjnboeaaa
