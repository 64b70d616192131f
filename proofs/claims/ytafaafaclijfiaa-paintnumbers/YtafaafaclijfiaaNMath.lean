/- The plain arithmetic of the document's ninth chapter (how long a line is, places on the way, parts of a line), on Lean's own integers and lists: no condition but those that the theorems name; no program is named here. -/
import Derived.Test.YtafaafaclijfiaaPMath
namespace Go.Proofs.Ytafaafaclijfiaa
namespace M

def plc (p : Pt) : Pt := ⟨place p.x, place p.y⟩
theorem plc_plc (p : Pt) : plc (plc p) = plc p := by simp [plc, place_place]
/-- How long the way between two places is. -/
def longP (a b : Pt) : Int := hyp (b.x - a.x) (b.y - a.y)
def sidesN (c : Bool) (n : Nat) : Nat := if n < 2 then 0 else if c = true then n else n - 1
theorem sidesN_le (c : Bool) (n : Nat) : sidesN c n ≤ n := by unfold sidesN; split <;> (try split) <;> omega
theorem sidesN_few (c : Bool) {n : Nat} (h : n < 2) : sidesN c n = 0 := by unfold sidesN; rw [if_pos h]
theorem sidesN_closed {n : Nat} (h : ¬ n < 2) : sidesN true n = n := by unfold sidesN; rw [if_neg h, if_pos rfl]
theorem sidesN_open {n : Nat} (h : ¬ n < 2) : sidesN false n = n - 1 := by unfold sidesN; rw [if_neg h, if_neg (by simp)]
/-- The number of the place behind place i, of n. -/
def nxt (n i : Nat) : Nat := if i + 1 = n then 0 else i + 1
theorem nxt_last {n i : Nat} (h : i + 1 = n) : nxt n i = 0 := if_pos h
theorem nxt_in {n i : Nat} (h : ¬ i + 1 = n) : nxt n i = i + 1 := if_neg h
theorem nxt_lt {n i : Nat} (h : i < n) : nxt n i < n := by unfold nxt; split <;> omega
theorem nxt_mod {n i : Nat} (h : i < n) : Int.tmod ((i : Int) + 1) (n : Int) = (nxt n i : Nat) := by
  have e : Int.tmod ((i : Int) + 1) (n : Int) = (((i + 1) % n : Nat) : Int) := by
    rw [Int.tmod_eq_emod_of_nonneg (by omega)]
    simp
  rw [e]
  by_cases h1 : i + 1 = n
  · rw [nxt_last h1, h1, Nat.mod_self]
  · rw [nxt_in h1, Nat.mod_eq_of_lt (by omega)]
def sa (ps : List Pt) (i : Nat) : Pt := plc (pt ps i)
def sb (ps : List Pt) (i : Nat) : Pt := plc (pt ps (nxt ps.length i))
def sideL (ps : List Pt) (i : Nat) : Int := longP (sa ps i) (sb ps i)
theorem longP_lo (a b : Pt) : 0 ≤ longP a b := hyp_lo _ _
theorem longP_hi (a b : Pt) : longP a b ≤ 1518500249 := hyp_hi _ _
theorem sideL_lo (ps : List Pt) (i : Nat) : 0 ≤ sideL ps i := longP_lo _ _
theorem sideL_hi (ps : List Pt) (i : Nat) : sideL ps i ≤ 1518500249 := longP_hi _ _
/-- How long the first n sides are. -/
def lenN (ps : List Pt) : Nat → Int
  | 0 => 0
  | n + 1 => add (lenN ps n) (sideL ps n)
theorem lenN_zero (ps : List Pt) : lenN ps 0 = 0 := rfl
theorem lenN_step (ps : List Pt) (n : Nat) : add (lenN ps n) (sideL ps n) = lenN ps (n + 1) := rfl
theorem lenN_in (ps : List Pt) : ∀ n, 0 ≤ lenN ps n ∧ lenN ps n ≤ 1099511627776
  | 0 => by simp [lenN]
  | n + 1 => by
    have ih := lenN_in ps n
    have h0 := sideL_lo ps n
    have h1 := sideL_hi ps n
    rw [← lenN_step]
    unfold add
    rw [hold_in (a := lenN ps n) (by omega) (by omega), hold_in (a := sideL ps n) (by omega) (by omega)]
    refine ⟨?_, hold_hi _⟩
    have := hold_mono (a := 0) (b := lenN ps n + sideL ps n) (by omega)
    rwa [hold_in (a := 0) (by omega) (by omega)] at this
theorem add_near {s l : Int} (s0 : 0 ≤ s) (s1 : s ≤ 1099511627776) (l0 : 0 ≤ l) (l1 : l ≤ 1518500249) : add s l = hold (s + l) := by
  unfold add
  rw [hold_in (a := s) (by omega) (by omega), hold_in (a := l) (by omega) (by omega)]
/-- Below Great a held sum passes a number just where the sum does. -/
theorem add_past {s l f : Int} (s0 : 0 ≤ s) (s1 : s ≤ 1099511627776) (l0 : 0 ≤ l) (l1 : l ≤ 1518500249) (hf : f < 1099511627776) : f < add s l ↔ f < s + l := by
  rw [add_near s0 s1 l0 l1]
  by_cases h : s + l ≤ 1099511627776
  · rw [hold_in (by omega) h]
  · rw [hold_ge (by omega)]; omega
def lengthL (c : Bool) (ps : List Pt) : Int := lenN ps (sidesN c ps.length)
/-- The place that lies d of l on the way from a to b. -/
def onP (a b : Pt) (d l : Int) : Pt := if hold d ≤ 0 then plc a else if l ≤ hold d then plc b else ⟨mid (place a.x) (place b.x) (dv (hold d) l), mid (place a.y) (place b.y) (dv (hold d) l)⟩
theorem onP_a {a b : Pt} {d l : Int} (h : hold d ≤ 0) : onP a b d l = plc a := if_pos h
theorem onP_b {a b : Pt} {d l : Int} (h : ¬ hold d ≤ 0) (h2 : l ≤ hold d) : onP a b d l = plc b := by unfold onP; rw [if_neg h, if_pos h2]
theorem onP_mid {a b : Pt} {d l : Int} (h : ¬ hold d ≤ 0) (h2 : ¬ l ≤ hold d) : onP a b d l = ⟨mid (place a.x) (place b.x) (dv (hold d) l), mid (place a.y) (place b.y) (dv (hold d) l)⟩ := by unfold onP; rw [if_neg h, if_neg h2]
/-- Whether side i has a piece between f and t. -/
def hit (ps : List Pt) (f t : Int) (i : Nat) : Prop := 0 < sideL ps i ∧ f < lenN ps i + sideL ps i ∧ lenN ps i < t
instance (ps : List Pt) (f t : Int) (i : Nat) : Decidable (hit ps f t i) := by unfold hit; infer_instance
def fromP (ps : List Pt) (f : Int) (i : Nat) : Pt := onP (sa ps i) (sb ps i) (f - lenN ps i) (sideL ps i)
/-- What the first n sides have between f and t. -/
def cutN (ps : List Pt) (f t : Int) : Nat → List Pt
  | 0 => []
  | n + 1 => if hit ps f t n then (if (cutN ps f t n).length = 0 then [fromP ps f n] else cutN ps f t n) ++ [fromP ps t n] else cutN ps f t n
theorem cutN_zero (ps : List Pt) (f t : Int) : cutN ps f t 0 = [] := rfl
theorem cutN_off {ps : List Pt} {f t : Int} {n : Nat} (h : ¬ hit ps f t n) : cutN ps f t (n + 1) = cutN ps f t n := by rw [cutN, if_neg h]
theorem cutN_first {ps : List Pt} {f t : Int} {n : Nat} (h : hit ps f t n) (h0 : (cutN ps f t n).length = 0) : cutN ps f t (n + 1) = [fromP ps f n] ++ [fromP ps t n] := by rw [cutN, if_pos h, if_pos h0]
theorem cutN_more {ps : List Pt} {f t : Int} {n : Nat} (h : hit ps f t n) (h0 : ¬ (cutN ps f t n).length = 0) : cutN ps f t (n + 1) = cutN ps f t n ++ [fromP ps t n] := by rw [cutN, if_pos h, if_neg h0]
theorem cutN_length (ps : List Pt) (f t : Int) : ∀ n, (cutN ps f t n).length ≤ n + 1
  | 0 => by simp [cutN]
  | n + 1 => by
    have ih := cutN_length ps f t n
    by_cases h : hit ps f t n
    · by_cases h0 : (cutN ps f t n).length = 0
      · rw [cutN_first h h0]; simp
      · rw [cutN_more h h0]; simp; omega
    · rw [cutN_off h]; omega
def cutL (c : Bool) (ps : List Pt) (f t : Int) : List Pt := if hold t ≤ hold f then [] else cutN ps (hold f) (hold t) (sidesN c ps.length)
theorem cutL_no {c : Bool} {ps : List Pt} {f t : Int} (h : hold t ≤ hold f) : cutL c ps f t = [] := if_pos h
theorem cutL_yes {c : Bool} {ps : List Pt} {f t : Int} (h : ¬ hold t ≤ hold f) : cutL c ps f t = cutN ps (hold f) (hold t) (sidesN c ps.length) := if_neg h
theorem cutL_length (c : Bool) (ps : List Pt) (f t : Int) : (cutL c ps f t).length ≤ ps.length + 1 := by
  unfold cutL
  split
  · simp
  · have := cutN_length ps (hold f) (hold t) (sidesN c ps.length)
    have := sidesN_le c ps.length
    omega

end M
end Go.Proofs.Ytafaafaclijfiaa
