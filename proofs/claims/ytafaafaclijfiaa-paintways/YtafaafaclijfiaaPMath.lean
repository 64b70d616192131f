/- The plain arithmetic of the document's seventh chapter (paths: which may be, what lies between two, what keys of paths tell, where maps take them), on Lean's own integers and lists: no condition but those that the theorems name; no program is named here. -/
import Derived.Test.YtafaafaclijfiaaKMath
import Derived.Test.YtafaafaclijfiaaMidM
namespace Go.Proofs.Ytafaafaclijfiaa
namespace M

/-- A place. -/
structure Pt where
  x : Int
  y : Int
deriving DecidableEq
instance : Inhabited Pt := ⟨⟨0, 0⟩⟩
/-- Place i of a list. -/
def pt (ps : List Pt) (i : Nat) : Pt := ps.getD i default
theorem pt_cons (p : Pt) (ps : List Pt) (i : Nat) : pt (p :: ps) (i + 1) = pt ps i := by simp [pt]
theorem pt_zero (p : Pt) (ps : List Pt) : pt (p :: ps) 0 = p := by simp [pt]
theorem pt_left {ps : List Pt} {p : Pt} {i : Nat} (h : i < ps.length) : pt (ps ++ [p]) i = pt ps i := by
  unfold pt; simp [List.getD, List.getElem?_append_left h]
theorem pt_last (ps : List Pt) (p : Pt) : pt (ps ++ [p]) ps.length = p := by unfold pt; simp [List.getD]
theorem pt_set_eq {ps : List Pt} {n : Nat} (hn : n < ps.length) (k : Pt) : pt (ps.set n k) n = k := by unfold pt; simp [List.getD, hn]
theorem pt_set_ne {ps : List Pt} {n i : Nat} (h : n ≠ i) (k : Pt) : pt (ps.set n k) i = pt ps i := by unfold pt; simp [List.getD, h]
theorem pt_set_self (ps : List Pt) (n : Nat) : ps.set n (pt ps n) = ps := by
  apply List.ext_getElem?
  intro i
  by_cases e : n = i
  · subst e
    by_cases h : n < ps.length
    · unfold pt; simp [List.getD, h]
    · rw [List.getElem?_eq_none (by simp; omega), List.getElem?_eq_none (by omega)]
  · simp [e]
/-- Two lists of one length that agree place by place are one. -/
theorem pts_ext {ps qs : List Pt} (hl : ps.length = qs.length) (h : ∀ i, i < ps.length → pt ps i = pt qs i) : ps = qs := by
  apply List.ext_getElem?
  intro i
  by_cases hi : i < ps.length
  · have e := h i hi
    unfold pt at e
    rw [List.getD_eq_getElem?_getD, List.getD_eq_getElem?_getD, List.getElem?_eq_getElem hi, List.getElem?_eq_getElem (by omega)] at e
    rw [List.getElem?_eq_getElem hi, List.getElem?_eq_getElem (by omega)]
    exact congrArg some e
  · rw [List.getElem?_eq_none (by omega), List.getElem?_eq_none (by omega)]
theorem pt_map (f : Pt → Pt) {ps : List Pt} {i : Nat} (hi : i < ps.length) : pt (ps.map f) i = f (pt ps i) := by
  unfold pt
  simp [List.getD, hi]
theorem pt_mapIdx (f : Nat → Pt) {n i : Nat} (hi : i < n) : pt ((List.range n).map f) i = f i := by
  unfold pt
  rw [List.getD_eq_getElem?_getD, List.getElem?_map, List.getElem?_range hi]
  rfl

def nearN (a : Int) : Bool := decide (-67108864 ≤ a) && decide (a ≤ 67108864)
def nearP (p : Pt) : Bool := nearN p.x && nearN p.y
/-- The first n are near. -/
def nearL (ps : List Pt) : Nat → Bool
  | 0 => true
  | n + 1 => nearL ps n && nearP (pt ps n)
theorem nearL_off {ps : List Pt} {n i : Nat} (hi : i < n) (h : nearP (pt ps i) = false) : nearL ps n = false := by
  induction n with
  | zero => omega
  | succ n ih =>
    unfold nearL
    by_cases e : i = n
    · subst e; rw [h]; simp
    · rw [ih (by omega)]; rfl
theorem nearL_all {ps : List Pt} : ∀ {n : Nat}, (∀ i, i < n → nearP (pt ps i) = true) → nearL ps n = true
  | 0, _ => rfl
  | n + 1, h => by unfold nearL; rw [nearL_all (fun i hi => h i (by omega)), h n (by omega)]; rfl
def okLen (n : Nat) : Bool := decide (4 ≤ n) && decide (n ≤ 97) && decide (n % 3 = 1)
/-- Right of a path. -/
def okP (c : Bool) (ps : List Pt) : Bool := if ps.length = 0 then !c else okLen ps.length && nearL ps ps.length
def fits (c : Bool) (ps : List Pt) (d : Bool) (qs : List Pt) : Bool := decide (ps.length = qs.length) && (c == d)
def midP (p q : Pt) (t : Int) : Pt := ⟨mid p.x q.x t, mid p.y q.y t⟩
def midL (ps qs : List Pt) (t : Int) : List Pt := (List.range ps.length).map fun i => midP (pt ps i) (pt qs i) t
def morph (c : Bool) (ps : List Pt) (d : Bool) (qs : List Pt) (t : Int) : List Pt := if fits c ps d qs = true then midL ps qs t else ps
theorem midL_length (ps qs : List Pt) (t : Int) : (midL ps qs t).length = ps.length := by simp [midL]
theorem morph_length (c : Bool) (ps : List Pt) (d : Bool) (qs : List Pt) (t : Int) : (morph c ps d qs t).length = ps.length := by
  unfold morph; split
  · exact midL_length _ _ _
  · rfl
theorem pt_midL {ps qs : List Pt} {t : Int} {i : Nat} (hi : i < ps.length) : pt (midL ps qs t) i = midP (pt ps i) (pt qs i) t := pt_mapIdx _ hi
def applyP (a b c d e f : Int) (p : Pt) : Pt := ⟨place (add (add (mul a p.x) (mul c p.y)) e), place (add (add (mul b p.x) (mul d p.y)) f)⟩
def mapL (a b c d e f : Int) (ps : List Pt) : List Pt := ps.map (applyP a b c d e f)

/-- Places as a tape gives them. -/
def Small (ps : List Pt) : Prop := ∀ i, i < ps.length → -131072 ≤ (pt ps i).x ∧ (pt ps i).x ≤ 983039 ∧ -131072 ≤ (pt ps i).y ∧ (pt ps i).y ≤ 983039
theorem Small.snoc {ps : List Pt} (h : Small ps) {p : Pt} (x0 : -131072 ≤ p.x) (x1 : p.x ≤ 983039) (y0 : -131072 ≤ p.y) (y1 : p.y ≤ 983039) : Small (ps ++ [p]) := by
  intro i hi
  simp at hi
  by_cases e : i < ps.length
  · rw [pt_left e]; exact h i e
  · obtain rfl : i = ps.length := by omega
    rw [pt_last]; exact ⟨x0, x1, y0, y1⟩
theorem Small.nil : Small [] := fun i hi => by simp at hi
theorem Small.near {ps : List Pt} (h : Small ps) : nearL ps ps.length = true := by
  apply nearL_all
  intro i hi
  have := h i hi
  simp [nearP, nearN]
  omega
theorem midL_zero {ps qs : List Pt} (h : Small ps) (h2 : Small qs) (hl : ps.length = qs.length) : midL ps qs 0 = ps := by
  apply pts_ext (midL_length _ _ _)
  intro i hi
  rw [midL_length] at hi
  rw [pt_midL hi]
  have := h i hi
  have := h2 i (by omega)
  unfold midP
  rw [(mid_ends (by omega) (by omega) (by omega) (by omega)).1, (mid_ends (by omega) (by omega) (by omega) (by omega)).1]
theorem midL_one {ps qs : List Pt} (h : Small ps) (h2 : Small qs) (hl : ps.length = qs.length) : midL ps qs 65536 = qs := by
  apply pts_ext ((midL_length _ _ _).trans hl)
  intro i hi
  rw [midL_length] at hi
  rw [pt_midL hi]
  have := h i hi
  have := h2 i (by omega)
  unfold midP
  rw [(mid_ends (by omega) (by omega) (by omega) (by omega)).2, (mid_ends (by omega) (by omega) (by omega) (by omega)).2]
theorem midL_in {ps qs : List Pt} {k : Int} (h : Small ps) (h2 : Small qs) (hl : ps.length = qs.length) (k0 : 0 ≤ k) (k1 : k ≤ 65536) {i : Nat} (hi : i < ps.length) :
    min (pt ps i).x (pt qs i).x ≤ (pt (midL ps qs k) i).x ∧ (pt (midL ps qs k) i).x ≤ max (pt ps i).x (pt qs i).x ∧ min (pt ps i).y (pt qs i).y ≤ (pt (midL ps qs k) i).y ∧ (pt (midL ps qs k) i).y ≤ max (pt ps i).y (pt qs i).y := by
  rw [pt_midL hi]
  have := h i hi
  have := h2 i (by omega)
  have a := mid_in (x := (pt ps i).x) (y := (pt qs i).x) (k := k) (by omega) (by omega) (by omega) (by omega) k0 k1
  have b := mid_in (x := (pt ps i).y) (y := (pt qs i).y) (k := k) (by omega) (by omega) (by omega) (by omega) k0 k1
  exact ⟨a.1, a.2, b.1, b.2⟩
theorem midL_small {ps qs : List Pt} {k : Int} (h : Small ps) (h2 : Small qs) (hl : ps.length = qs.length) (k0 : 0 ≤ k) (k1 : k ≤ 65536) : Small (midL ps qs k) := by
  intro i hi
  rw [midL_length] at hi
  have := midL_in h h2 hl k0 k1 hi
  have := h i hi
  have := h2 i (by omega)
  omega

end M
end Go.Proofs.Ytafaafaclijfiaa
