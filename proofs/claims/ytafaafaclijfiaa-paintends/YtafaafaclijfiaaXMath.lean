/- The plain arithmetic of the document's tenth chapter (shares of a whole, parts of outlines), on Lean's own integers and lists: no condition but those that the theorems name; no program is named here. -/
import Derived.Test.YtafaafaclijfiaaNMath
namespace Go.Proofs.Ytafaafaclijfiaa
namespace M

def sh (a : Int) : Int := clamp a 0 65536
def spA (f t : Int) : Int := if sh t < sh f then sh t else sh f
def spB (f t : Int) : Int := if sh t < sh f then sh f else sh t
theorem sh_lo (a : Int) : 0 ≤ sh a := by unfold sh clamp; split <;> (try split) <;> omega
theorem sh_hi (a : Int) : sh a ≤ 65536 := by unfold sh clamp; split <;> (try split) <;> omega
theorem sh_in {a : Int} (h0 : 0 ≤ a) (h1 : a ≤ 65536) : sh a = a := by unfold sh clamp; rw [if_neg (by omega), if_neg (by omega)]
theorem spA_comm (f t : Int) : spA f t = spA t f := by unfold spA; split <;> split <;> omega
theorem spB_comm (f t : Int) : spB f t = spB t f := by unfold spB; split <;> split <;> omega
theorem sp_in (f t : Int) : 0 ≤ spA f t ∧ spA f t ≤ spB f t ∧ spB f t ≤ 65536 := by
  have a0 := sh_lo f
  have a1 := sh_hi f
  have b0 := sh_lo t
  have b1 := sh_hi t
  unfold spA spB
  split <;> omega
theorem spA_le {f t : Int} (h : f ≤ t) (h0 : 0 ≤ f) (h1 : t ≤ 65536) : spA f t = f := by unfold spA; rw [sh_in (by omega) (by omega), sh_in (by omega) (by omega), if_neg (by omega)]
theorem spB_le {f t : Int} (h : f ≤ t) (h0 : 0 ≤ f) (h1 : t ≤ 65536) : spB f t = t := by unfold spB; rw [sh_in (by omega) (by omega), sh_in (by omega) (by omega), if_neg (by omega)]
/-- What lies between two shares of a line. -/
def partP (a b : Int) (c : Bool) (ps : List Pt) : List Pt := cutL c ps (mul (lengthL c ps) a) (mul (lengthL c ps) b)
theorem partP_length (a b : Int) (c : Bool) (ps : List Pt) : (partP a b c ps).length ≤ ps.length + 1 := cutL_length _ _ _ _
/-- What is left of the first polys. -/
def keepN (a b : Int) (f : Nat → Bool × List Pt) : Nat → List (Bool × List Pt)
  | 0 => []
  | n + 1 => if 2 ≤ (partP a b (f n).1 (f n).2).length then keepN a b f n ++ [(false, partP a b (f n).1 (f n).2)] else keepN a b f n
theorem keepN_zero (a b : Int) (f : Nat → Bool × List Pt) : keepN a b f 0 = [] := rfl
theorem keepN_yes {a b : Int} {f : Nat → Bool × List Pt} {n : Nat} (h : 2 ≤ (partP a b (f n).1 (f n).2).length) : keepN a b f (n + 1) = keepN a b f n ++ [(false, partP a b (f n).1 (f n).2)] := if_pos h
theorem keepN_no {a b : Int} {f : Nat → Bool × List Pt} {n : Nat} (h : ¬ 2 ≤ (partP a b (f n).1 (f n).2).length) : keepN a b f (n + 1) = keepN a b f n := if_neg h
theorem keepN_length (a b : Int) (f : Nat → Bool × List Pt) : ∀ n, (keepN a b f n).length ≤ n
  | 0 => by simp [keepN]
  | n + 1 => by
    have ih := keepN_length a b f n
    by_cases h : 2 ≤ (partP a b (f n).1 (f n).2).length
    · rw [keepN_yes h]; simp; omega
    · rw [keepN_no h]; omega
/-- The first polys, all of them. -/
def allN (f : Nat → Bool × List Pt) (n : Nat) : List (Bool × List Pt) := (List.range n).map f
theorem allN_succ (f : Nat → Bool × List Pt) (n : Nat) : allN f (n + 1) = allN f n ++ [f n] := by unfold allN; rw [List.range_succ, List.map_append, List.map_singleton]
theorem allN_length (f : Nat → Bool × List Pt) (n : Nat) : (allN f n).length ≤ n := by unfold allN; simp
def trimL (f t : Int) (g : Nat → Bool × List Pt) (n : Nat) : List (Bool × List Pt) := if spA f t = 0 ∧ spB f t = 65536 then (List.range n).map g else keepN (spA f t) (spB f t) g n
theorem trimL_all {f t : Int} {g : Nat → Bool × List Pt} {n : Nat} (h : spA f t = 0 ∧ spB f t = 65536) : trimL f t g n = (List.range n).map g := if_pos h
theorem trimL_part {f t : Int} {g : Nat → Bool × List Pt} {n : Nat} (h : ¬ (spA f t = 0 ∧ spB f t = 65536)) : trimL f t g n = keepN (spA f t) (spB f t) g n := if_neg h
theorem trimL_comm (f t : Int) (g : Nat → Bool × List Pt) (n : Nat) : trimL f t g n = trimL t f g n := by unfold trimL; rw [spA_comm f t, spB_comm f t]

/-- Of one poly. -/
def trim1 (f t : Int) (c : Bool) (ps : List Pt) : List (Bool × List Pt) := if spA f t = 0 ∧ spB f t = 65536 then [(c, ps)] else if 2 ≤ (partP (spA f t) (spB f t) c ps).length then [(false, partP (spA f t) (spB f t) c ps)] else []
theorem trimL_one (f t : Int) {g : Nat → Bool × List Pt} {c : Bool} {ps : List Pt} (hg : g 0 = (c, ps)) : trimL f t g 1 = trim1 f t c ps := by
  unfold trimL trim1
  split
  · simp [List.range_succ, hg]
  · rw [keepN, hg]
    simp only [keepN_zero, List.nil_append]
theorem trim1_comm (f t : Int) (c : Bool) (ps : List Pt) : trim1 f t c ps = trim1 t f c ps := by unfold trim1; rw [spA_comm f t, spB_comm f t]

end M
end Go.Proofs.Ytafaafaclijfiaa
