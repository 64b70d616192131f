/- The plain arithmetic of the document's twelfth chapter (areas, lists that are turned, outlines of lines), on Lean's own integers and lists: no condition but those that the theorems name; no program is named here. -/
import Derived.Test.YtafaafaclijfiaaNMath
namespace Go.Proofs.Ytafaafaclijfiaa
namespace M

/-- A number as int64 goes round. -/
def w64 (n : Int) : Int := (n + 9223372036854775808) % 18446744073709551616 - 9223372036854775808
theorem w64_in {n : Int} (h1 : -9223372036854775808 ≤ n) (h2 : n < 9223372036854775808) : w64 n = n := by unfold w64; omega
theorem w64_add (a b : Int) : w64 (w64 a + b) = w64 (a + b) := by unfold w64; omega
theorem w64_two (s p q : Int) : w64 (w64 (s + p) - q) = w64 (s + (p - q)) := by unfold w64; omega
theorem w64_lo (n : Int) : -9223372036854775808 ≤ w64 n := by unfold w64; omega
theorem w64_hi (n : Int) : w64 n ≤ 9223372036854775807 := by unfold w64; omega
theorem mul_two {a b : Int} {m : Nat} (a1 : -(m : Int) ≤ a) (a2 : a ≤ m) (b1 : -(m : Int) ≤ b) (b2 : b ≤ m) : -((m * m : Nat) : Int) ≤ a * b ∧ a * b ≤ ((m * m : Nat) : Int) := by
  have e : (a * b).natAbs = a.natAbs * b.natAbs := Int.natAbs_mul a b
  have h : a.natAbs * b.natAbs ≤ m * m := Nat.mul_le_mul (by omega) (by omega)
  omega

/-- What two places give to the area. -/
def xp (a b : Pt) : Int := a.x * b.y - b.x * a.y
theorem xp_neg (a b : Pt) : xp b a = - xp a b := by
  unfold xp
  omega
def cross (ps : List Pt) (i : Nat) : Int := xp (sa ps i) (sb ps i)
def sumN (f : Nat → Int) : Nat → Int
  | 0 => 0
  | n + 1 => sumN f n + f n
theorem sumN_head (f : Nat → Int) : ∀ n, sumN f (n + 1) = f 0 + sumN (fun i => f (i + 1)) n
  | 0 => by simp [sumN]
  | n + 1 => by
    show sumN f (n + 1) + f (n + 1) = f 0 + (sumN (fun i => f (i + 1)) n + f (n + 1))
    rw [sumN_head f n]; omega
theorem sumN_cong {f g : Nat → Int} : ∀ {n : Nat}, (∀ i, i < n → f i = g i) → sumN f n = sumN g n
  | 0, _ => rfl
  | n + 1, h => by
    show sumN f n + f n = sumN g n + g n
    rw [sumN_cong (fun i hi => h i (by omega)), h n (by omega)]
theorem sumN_rev (f : Nat → Int) : ∀ n, sumN (fun i => f (n - 1 - i)) n = sumN f n
  | 0 => rfl
  | n + 1 => by
    rw [sumN_head]
    have := sumN_rev f n
    have e : sumN (fun i => f (n + 1 - 1 - (i + 1))) n = sumN (fun i => f (n - 1 - i)) n := sumN_cong fun i hi => by rw [show n + 1 - 1 - (i + 1) = n - 1 - i by omega]
    rw [e, this]
    show f (n + 1 - 1 - 0) + sumN f n = sumN f n + f n
    rw [show n + 1 - 1 - 0 = n by omega]; omega
theorem sumN_neg (f : Nat → Int) : ∀ n, sumN (fun i => - f i) n = - sumN f n
  | 0 => rfl
  | n + 1 => by
    show sumN (fun i => - f i) n + - f n = - (sumN f n + f n)
    rw [sumN_neg f n]; omega
theorem sumN_in {f : Nat → Int} {m : Int} : ∀ {n : Nat}, (∀ i, i < n → -m ≤ f i ∧ f i ≤ m) → -(n * m) ≤ sumN f n ∧ sumN f n ≤ n * m
  | 0, _ => by simp [sumN]
  | n + 1, h => by
    have a := sumN_in (n := n) (fun i hi => h i (by omega))
    have b := h n (by omega)
    have e : ((n + 1 : Nat) : Int) * m = n * m + m := by rw [Int.natCast_add, Int.add_mul]; simp
    rw [e]
    show -(n * m + m) ≤ sumN f n + f n ∧ sumN f n + f n ≤ n * m + m
    omega
/-- The area's sum behind n places, as int64 goes round. -/
def areaN (ps : List Pt) : Nat → Int
  | 0 => 0
  | n + 1 => w64 (areaN ps n + cross ps n)
theorem areaN_sum (ps : List Pt) : ∀ n, areaN ps n = w64 (sumN (cross ps) n)
  | 0 => rfl
  | n + 1 => by
    show w64 (areaN ps n + cross ps n) = w64 (sumN (cross ps) n + cross ps n)
    rw [areaN_sum ps n, w64_add]
def areaL (ps : List Pt) : Int := areaN ps ps.length
def turnL (ps : List Pt) : List Pt := if areaL ps < 0 then ps.reverse else ps
theorem turnL_back {ps : List Pt} (h : areaL ps < 0) : turnL ps = ps.reverse := if_pos h
theorem turnL_stay {ps : List Pt} (h : ¬ areaL ps < 0) : turnL ps = ps := if_neg h
theorem turnL_length (ps : List Pt) : (turnL ps).length = ps.length := by unfold turnL; split <;> simp
theorem areaN_lo (ps : List Pt) : ∀ n, -9223372036854775808 ≤ areaN ps n ∧ areaN ps n ≤ 9223372036854775807
  | 0 => by simp [areaN]
  | n + 1 => ⟨w64_lo _, w64_hi _⟩
theorem pt_reverse {ps : List Pt} {i : Nat} (h : i < ps.length) : pt ps.reverse i = pt ps (ps.length - 1 - i) := by
  unfold pt
  rw [List.getD_eq_getElem?_getD, List.getD_eq_getElem?_getD, List.getElem?_reverse h]
theorem sum_reverse (ps : List Pt) : sumN (cross ps.reverse) ps.length = - sumN (cross ps) ps.length := by
  rcases Nat.eq_zero_or_pos ps.length with h0 | h0
  · rw [h0]; rfl
  obtain ⟨n, hn⟩ : ∃ n, ps.length = n + 1 := ⟨ps.length - 1, by omega⟩
  rw [hn]
  show sumN (cross ps.reverse) n + cross ps.reverse n = - (sumN (cross ps) n + cross ps n)
  have e1 : cross ps.reverse n = - cross ps n := by
    unfold cross sa sb
    rw [List.length_reverse, hn, nxt_last rfl, pt_reverse (by omega), pt_reverse (by omega), hn, show n + 1 - 1 - n = 0 by omega, show n + 1 - 1 - 0 = n by omega, xp_neg]
  have e2 : sumN (cross ps.reverse) n = sumN (fun i => - cross ps (n - 1 - i)) n := sumN_cong fun i hi => by
    unfold cross sa sb
    rw [List.length_reverse, hn, nxt_in (by omega), nxt_in (by omega), pt_reverse (by omega), pt_reverse (by omega), hn, show n - 1 - i + 1 = n + 1 - 1 - i by omega, show n + 1 - 1 - (i + 1) = n - 1 - i by omega, xp_neg]
  rw [e1, e2, sumN_neg (fun i => cross ps (n - 1 - i)), sumN_rev (cross ps)]
  omega
/-- A sum that does not go round is the area. -/
theorem area_plain {ps : List Pt} {m : Int} (hm : ∀ i, i < ps.length → -m ≤ cross ps i ∧ cross ps i ≤ m) (hs : (ps.length : Int) * m < 9223372036854775808) : areaL ps = sumN (cross ps) ps.length ∧ areaL ps.reverse = - areaL ps ∧ areaL (turnL ps) = (if areaL ps < 0 then - areaL ps else areaL ps) ∧ turnL (turnL ps) = turnL ps := by
  have b := sumN_in hm
  have e1 : areaL ps = sumN (cross ps) ps.length := by unfold areaL; rw [areaN_sum, w64_in (by omega) (by omega)]
  have e2 : areaL ps.reverse = - areaL ps := by rw [e1]; unfold areaL; rw [areaN_sum, List.length_reverse, sum_reverse, w64_in (by omega) (by omega)]
  refine ⟨e1, e2, ?_, ?_⟩
  · by_cases h : areaL ps < 0
    · rw [turnL_back h, if_pos h, e2]
    · rw [turnL_stay h, if_neg h]
  · by_cases h : areaL ps < 0
    · rw [turnL_back h, turnL_stay (by rw [e2]; omega)]
    · rw [turnL_stay h, turnL_stay h]
/-- A poly of an outline: its places held, turned. -/
def shapeL (ps : List Pt) : List Pt := turnL (ps.map plc)
theorem shapeL_length (ps : List Pt) : (shapeL ps).length = ps.length := by unfold shapeL; rw [turnL_length, List.length_map]
theorem cross_in (ps : List Pt) (i : Nat) : -576460752303423488 ≤ cross ps i ∧ cross ps i ≤ 576460752303423488 := by
  have a1 := mul_two (m := 536870912) (place_lo (pt ps i).x) (place_hi (pt ps i).x) (place_lo (pt ps (nxt ps.length i)).y) (place_hi (pt ps (nxt ps.length i)).y)
  have a2 := mul_two (m := 536870912) (place_lo (pt ps (nxt ps.length i)).x) (place_hi (pt ps (nxt ps.length i)).x) (place_lo (pt ps i).y) (place_hi (pt ps i).y)
  show -576460752303423488 ≤ place (pt ps i).x * place (pt ps (nxt ps.length i)).y - place (pt ps (nxt ps.length i)).x * place (pt ps i).y ∧ place (pt ps i).x * place (pt ps (nxt ps.length i)).y - place (pt ps (nxt ps.length i)).x * place (pt ps i).y ≤ 576460752303423488
  omega
theorem shape_area {ps : List Pt} (h : ps.length ≤ 8) : 0 ≤ areaL (shapeL ps) := by
  have := (area_plain (ps := ps.map plc) (fun i _ => cross_in _ i) (by rw [List.length_map]; omega)).2.2.1
  unfold shapeL
  rw [this]
  split <;> omega

/-- p and k times q. -/
def ad (p q : Pt) (k : Int) : Pt := ⟨p.x + k * q.x, p.y + k * q.y⟩
/-- A side that has a length: its ends, its way times half the width, and that turned. -/
structure Ln where
  a : Pt
  b : Pt
  way : Pt
  off : Pt
instance : Inhabited Ln := ⟨⟨default, default, default, default⟩⟩
def lnOf (ps : List Pt) (h : Int) (i : Nat) : Ln :=
  ⟨sa ps i, sb ps i,
    ⟨mul (dv ((sb ps i).x - (sa ps i).x) (sideL ps i)) h, mul (dv ((sb ps i).y - (sa ps i).y) (sideL ps i)) h⟩,
    ⟨mul (-(dv ((sb ps i).y - (sa ps i).y) (sideL ps i))) h, mul (dv ((sb ps i).x - (sa ps i).x) (sideL ps i)) h⟩⟩
def linesN (ps : List Pt) (h : Int) : Nat → List Ln
  | 0 => []
  | n + 1 => if 0 < sideL ps n then linesN ps h n ++ [lnOf ps h n] else linesN ps h n
theorem linesN_zero (ps : List Pt) (h : Int) : linesN ps h 0 = [] := rfl
theorem linesN_yes {ps : List Pt} {h : Int} {n : Nat} (hs : 0 < sideL ps n) : linesN ps h (n + 1) = linesN ps h n ++ [lnOf ps h n] := if_pos hs
theorem linesN_no {ps : List Pt} {h : Int} {n : Nat} (hs : ¬ 0 < sideL ps n) : linesN ps h (n + 1) = linesN ps h n := if_neg hs
theorem linesN_length (ps : List Pt) (h : Int) : ∀ n, (linesN ps h n).length ≤ n
  | 0 => by simp [linesN]
  | n + 1 => by
    have := linesN_length ps h n
    unfold linesN
    split
    · simp; omega
    · omega
def linesL (c : Bool) (ps : List Pt) (h : Int) : List Ln := linesN ps h (sidesN c ps.length)
/-- Line i of a list. -/
def ln (ls : List Ln) (i : Nat) : Ln := ls.getD i default
theorem ln_cons (l : Ln) (ls : List Ln) (i : Nat) : ln (l :: ls) (i + 1) = ln ls i := by simp [ln]
theorem ln_zero (l : Ln) (ls : List Ln) : ln (l :: ls) 0 = l := by simp [ln]
/-- Numbers that sums of a few stay far from going round. -/
def Big (p : Pt) : Prop := -1099511627776 ≤ p.x ∧ p.x ≤ 1099511627776 ∧ -1099511627776 ≤ p.y ∧ p.y ≤ 1099511627776
def LnOk (l : Ln) : Prop := Big l.a ∧ Big l.b ∧ Big l.way ∧ Big l.off
theorem big_plc (p : Pt) : Big (plc p) := ⟨by have := place_lo p.x; show _ ≤ place p.x; omega, by have := place_hi p.x; show place p.x ≤ _; omega, by have := place_lo p.y; show _ ≤ place p.y; omega, by have := place_hi p.y; show place p.y ≤ _; omega⟩
theorem lnOf_ok (ps : List Pt) (h : Int) (i : Nat) : LnOk (lnOf ps h i) := ⟨big_plc _, big_plc _, ⟨hold_lo _, hold_hi _, hold_lo _, hold_hi _⟩, ⟨hold_lo _, hold_hi _, hold_lo _, hold_hi _⟩⟩
theorem linesN_ok (ps : List Pt) (h : Int) : ∀ n, ∀ l ∈ linesN ps h n, LnOk l
  | 0, l, hl => by simp [linesN] at hl
  | n + 1, l, hl => by
    by_cases hs : 0 < sideL ps n
    · rw [linesN_yes hs] at hl
      rcases List.mem_append.1 hl with h1 | h1
      · exact linesN_ok ps h n l h1
      · rw [List.mem_singleton.1 h1]; exact lnOf_ok ps h n
    · rw [linesN_no hs] at hl; exact linesN_ok ps h n l hl
theorem ln_mem {ls : List Ln} {i : Nat} (h : i < ls.length) : ln ls i ∈ ls := by
  unfold ln
  rw [List.getD_eq_getElem?_getD, List.getElem?_eq_getElem h]
  exact List.getElem_mem h
theorem linesL_ok (c : Bool) (ps : List Pt) (h : Int) {i : Nat} (hi : i < (linesL c ps h).length) : LnOk (ln (linesL c ps h) i) := linesN_ok ps h _ _ (ln_mem hi)
/-- The poly of a side, its ends moved or not. -/
def frP (l : Ln) (e : Bool) : Pt := if e = true then ad l.a l.way (-1) else l.a
def toP (l : Ln) (e : Bool) : Pt := if e = true then ad l.b l.way 1 else l.b
def barP (l : Ln) (e f : Bool) : Bool × List Pt := (true, shapeL [ad (frP l e) l.off 1, ad (toP l f) l.off 1, ad (toP l f) l.off (-1), ad (frP l e) l.off (-1)])
def barsN (ls : List Ln) (ends : Bool) : Nat → List (Bool × List Pt)
  | 0 => []
  | n + 1 => barsN ls ends n ++ [barP (ln ls n) (ends && decide (n = 0)) (ends && decide (n + 1 = ls.length))]
theorem barsN_step (ls : List Ln) (ends : Bool) (n : Nat) : barsN ls ends (n + 1) = barsN ls ends n ++ [barP (ln ls n) (ends && decide (n = 0)) (ends && decide (n + 1 = ls.length))] := rfl
theorem barsN_length (ls : List Ln) (ends : Bool) : ∀ n, (barsN ls ends n).length = n
  | 0 => rfl
  | n + 1 => by rw [barsN_step, List.length_append, barsN_length ls ends n]; rfl
/-- Both polys where two sides meet. -/
def jointA (a b : Ln) (k : Int) : List Pt := shapeL [b.a, ad b.a a.off k, ad b.a b.off k]
def jointL (a b : Ln) : List (Bool × List Pt) := [(true, jointA a b 1), (true, jointA a b (-1))]
def cornN (ls : List Ln) : Nat → List (Bool × List Pt)
  | 0 => []
  | n + 1 => cornN ls n ++ jointL (ln ls n) (ln ls (n + 1))
theorem cornN_step (ls : List Ln) (n : Nat) : cornN ls (n + 1) = cornN ls n ++ jointL (ln ls n) (ln ls (n + 1)) := rfl
theorem cornN_length (ls : List Ln) : ∀ n, (cornN ls n).length = 2 * n
  | 0 => rfl
  | n + 1 => by rw [cornN_step, List.length_append, cornN_length ls n]; simp [jointL]; omega
def lastL (c : Bool) (ls : List Ln) : List (Bool × List Pt) := if c = true ∧ 2 ≤ ls.length then jointL (ln ls (ls.length - 1)) (ln ls 0) else []
def cornL (c : Bool) (ls : List Ln) : List (Bool × List Pt) := cornN ls (ls.length - 1) ++ lastL c ls
theorem lastL_yes {c : Bool} {ls : List Ln} (h : c = true ∧ 2 ≤ ls.length) : lastL c ls = jointL (ln ls (ls.length - 1)) (ln ls 0) := if_pos h
theorem lastL_no {c : Bool} {ls : List Ln} (h : ¬ (c = true ∧ 2 ≤ ls.length)) : lastL c ls = [] := if_neg h
theorem lastL_length (c : Bool) (ls : List Ln) : (lastL c ls).length = if c = true ∧ 2 ≤ ls.length then 2 else 0 := by unfold lastL; split <;> simp [jointL]
def half (w : Int) : Int := clamp (w / 2) 0 67108864
def outL (c : Bool) (ends : Bool) (ls : List Ln) : List (Bool × List Pt) := barsN ls ends ls.length ++ cornL c ls
def strokeL (c : Bool) (ps : List Pt) (w cap : Int) : List (Bool × List Pt) := if half w = 0 then [] else outL c (decide (cap = 1) && !c) (linesL c ps (half w))
theorem strokeL_none {c : Bool} {ps : List Pt} {w cap : Int} (h : half w = 0) : strokeL c ps w cap = [] := if_pos h
theorem strokeL_some {c : Bool} {ps : List Pt} {w cap : Int} (h : ¬ half w = 0) : strokeL c ps w cap = outL c (decide (cap = 1) && !c) (linesL c ps (half w)) := if_neg h
theorem half_in (w : Int) : 0 ≤ half w ∧ half w ≤ 67108864 := by unfold half clamp; split <;> (try split) <;> omega
theorem outL_length (c ends : Bool) (ls : List Ln) : (outL c ends ls).length = ls.length + 2 * (ls.length - 1) + (if c = true ∧ 2 ≤ ls.length then 2 else 0) := by
  unfold outL cornL
  rw [List.length_append, List.length_append, barsN_length, cornN_length, lastL_length]
  omega
/-- Each poly of an outline is closed, has three places or four, and does not go round backwards. -/
def PolyOk (y : Bool × List Pt) : Prop := y.1 = true ∧ 3 ≤ y.2.length ∧ y.2.length ≤ 4 ∧ 0 ≤ areaL y.2
theorem barP_ok (l : Ln) (e f : Bool) : PolyOk (barP l e f) := ⟨rfl, by unfold barP; rw [shapeL_length]; simp, by unfold barP; rw [shapeL_length]; simp, shape_area (by simp)⟩
theorem jointL_ok (a b : Ln) : ∀ y ∈ jointL a b, PolyOk y := by
  intro y hy
  simp [jointL] at hy
  rcases hy with rfl | rfl <;> exact ⟨rfl, by unfold jointA; rw [shapeL_length]; simp, by unfold jointA; rw [shapeL_length]; simp, shape_area (by simp)⟩
theorem barsN_ok (ls : List Ln) (ends : Bool) : ∀ n, ∀ y ∈ barsN ls ends n, PolyOk y
  | 0, y, hy => by simp [barsN] at hy
  | n + 1, y, hy => by
    rw [barsN_step] at hy
    rcases List.mem_append.1 hy with h1 | h1
    · exact barsN_ok ls ends n y h1
    · rw [List.mem_singleton.1 h1]; exact barP_ok _ _ _
theorem cornN_ok (ls : List Ln) : ∀ n, ∀ y ∈ cornN ls n, PolyOk y
  | 0, y, hy => by simp [cornN] at hy
  | n + 1, y, hy => by
    rw [cornN_step] at hy
    rcases List.mem_append.1 hy with h1 | h1
    · exact cornN_ok ls n y h1
    · exact jointL_ok _ _ y h1
theorem strokeL_ok (c : Bool) (ps : List Pt) (w cap : Int) : ∀ y ∈ strokeL c ps w cap, PolyOk y := by
  intro y hy
  unfold strokeL at hy
  split at hy
  · simp at hy
  · unfold outL cornL lastL at hy
    rcases List.mem_append.1 hy with h1 | h1
    · exact barsN_ok _ _ _ y h1
    · rcases List.mem_append.1 h1 with h2 | h2
      · exact cornN_ok _ _ y h2
      · split at h2
        · exact jointL_ok _ _ y h2
        · simp at h2

end M
end Go.Proofs.Ytafaafaclijfiaa
