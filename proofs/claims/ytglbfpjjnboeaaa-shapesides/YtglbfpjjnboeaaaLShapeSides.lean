/- ShapeSides of the statements: whatever the numbers are, the call returns true and each argument reads as it did; no condition. -/
import Derived.Test.YtglbfpjjnboeaaaPMath
import Derived.Test.YtglbfpjjnboeaaaTMath
import Derived.Test.YtglbfpjjnboeaaaPB
import Derived.Test.YtglbfpjjnboeaaaHK
import Derived.Test.YtglbfpjjnboeaaaKR5
import Derived.Test.YtglbfpjjnboeaaaKE5
import Derived.Test.YtglbfpjjnboeaaaMKK
import Derived.Test.YtglbfpjjnboeaaaKG
import Derived.Test.YtglbfpjjnboeaaaKA5
import Derived.Test.YtglbfpjjnboeaaaKA7
import Derived.Laws.Rows
import Derived.Test.YtglbfpjjnboeaaaPM
import Derived.Test.YtglbfpjjnboeaaaPC
import Derived.Test.YtglbfpjjnboeaaaTK5
import Derived.Deep.DeepCutAuto
import Derived.BigRegion
import Derived.Test.YtglbfpjjnboeaaaC
import Derived.Test.YtglbfpjjnboeaaaT
import Derived.Test.YtglbfpjjnboeaaaE4
import Derived.Test.YtglbfpjjnboeaaaMake
import Derived.Test.YtglbfpjjnboeaaaTail
import Derived.Test.YtglbfpjjnboeaaaRows
import Derived.WalkKit
import Derived.ProofKit
import Derived.OpenShut
namespace Go.Proofs.Ytglbfpjjnboeaaa
namespace M

/-- The path behind the first n sides of a ring of places. -/
def strN (ps : List Pt) : Nat → List Pt
  | 0 => [pt ps 0]
  | n + 1 => strN ps n ++ [pt ps n, pt ps ((n + 1) % ps.length), pt ps ((n + 1) % ps.length)]
def straightL (ps : List Pt) : List Pt := strN ps ps.length
theorem strN_length (ps : List Pt) : ∀ n, (strN ps n).length = 3 * n + 1
  | 0 => rfl
  | n + 1 => by unfold strN; rw [List.length_append, strN_length ps n]; simp; omega
theorem straightL_length (ps : List Pt) : (straightL ps).length = 3 * ps.length + 1 := strN_length _ _
def rectP (w h : Int) : List Pt := [⟨-(w / 2), -(h / 2)⟩, ⟨w - w / 2, -(h / 2)⟩, ⟨w - w / 2, h - h / 2⟩, ⟨-(w / 2), h - h / 2⟩]
def rectL (w h : Int) : List Pt := straightL (rectP w h)
def ovalN (a b k l : Int) : List Pt := [⟨a, 0⟩, ⟨a, l⟩, ⟨k, b⟩, ⟨0, b⟩, ⟨-k, b⟩, ⟨-a, l⟩, ⟨-a, 0⟩, ⟨-a, -l⟩, ⟨-k, -b⟩, ⟨0, -b⟩, ⟨k, -b⟩, ⟨a, -l⟩, ⟨a, 0⟩]
def ovalL (w h : Int) : List Pt := ovalN (w / 2) (h / 2) (mul (w / 2) 36195) (mul (h / 2) 36195)
/-- How many points a star has. -/
def points (n : Int) : Int := clamp n 2 16
def angle (c : Int) (j : Nat) : Int := (j * 11796480) / c - 5898240
def starP (c r s : Int) (j : Nat) : Pt := ⟨mul (if j % 2 = 1 then s else r) (cos (angle c j)), mul (if j % 2 = 1 then s else r) (sin (angle c j))⟩
def starN (c r s : Int) (n : Nat) : List Pt := (List.range n).map (starP c r s)
def starL (n r s : Int) : List Pt := straightL (starN (points n) r s (2 * (points n).toNat))
theorem starN_length (c r s : Int) (n : Nat) : (starN c r s n).length = n := by simp [starN]
theorem starN_snoc (c r s : Int) (n : Nat) : starN c r s (n + 1) = starN c r s n ++ [starP c r s n] := by unfold starN; rw [List.range_succ]; simp

end M
end Go.Proofs.Ytglbfpjjnboeaaa

namespace Go.Proofs.Ytglbfpjjnboeaaa
namespace M

def plc (p : Pt) : Pt := ⟨place p.x, place p.y⟩
theorem plc_plc (p : Pt) : plc (plc p) = plc p := by simp [plc, place_place]
/-- How long the way between two places is. -/
def longP (a b : Pt) : Int := hyp (b.x - a.x) (b.y - a.y)
def sidesN (c : Bool) (n : Nat) : Nat := if n < 2 then 0 else if c = true then n else n - 1
theorem sidesN_le (c : Bool) (n : Nat) : sidesN c n ≤ n := by unfold sidesN; split <;> (try split) <;> omega
theorem sidesN_few (c : Bool) {n : Nat} (h : n < 2) : sidesN c n = 0 := by unfold sidesN; rw [if_pos h]
theorem sidesN_closed {n : Nat} (h : ¬ n < 2) : sidesN true n = n := by unfold sidesN; rw [if_neg h, if_pos rfl]
theorem sidesN_open {n : Nat} (h : ¬ n < 2) : sidesN false n = n - 1 := by unfold sidesN; rw [if_neg h, if_neg (by simp)]
/-- The number of the place behind place i, of n. -/
def nxt (n i : Nat) : Nat := if i + 1 = n then 0 else i + 1
theorem nxt_last {n i : Nat} (h : i + 1 = n) : nxt n i = 0 := if_pos h
theorem nxt_in {n i : Nat} (h : ¬ i + 1 = n) : nxt n i = i + 1 := if_neg h
theorem nxt_lt {n i : Nat} (h : i < n) : nxt n i < n := by unfold nxt; split <;> omega
theorem nxt_mod {n i : Nat} (h : i < n) : Int.tmod ((i : Int) + 1) (n : Int) = (nxt n i : Nat) := by
  have e : Int.tmod ((i : Int) + 1) (n : Int) = (((i + 1) % n : Nat) : Int) := by
    rw [Int.tmod_eq_emod_of_nonneg (by omega)]
    simp
  rw [e]
  by_cases h1 : i + 1 = n
  · rw [nxt_last h1, h1, Nat.mod_self]
  · rw [nxt_in h1, Nat.mod_eq_of_lt (by omega)]
def sa (ps : List Pt) (i : Nat) : Pt := plc (pt ps i)
def sb (ps : List Pt) (i : Nat) : Pt := plc (pt ps (nxt ps.length i))
def sideL (ps : List Pt) (i : Nat) : Int := longP (sa ps i) (sb ps i)
theorem longP_lo (a b : Pt) : 0 ≤ longP a b := hyp_lo _ _
theorem longP_hi (a b : Pt) : longP a b ≤ 1518500249 := hyp_hi _ _
theorem sideL_lo (ps : List Pt) (i : Nat) : 0 ≤ sideL ps i := longP_lo _ _
theorem sideL_hi (ps : List Pt) (i : Nat) : sideL ps i ≤ 1518500249 := longP_hi _ _
/-- How long the first n sides are. -/
def lenN (ps : List Pt) : Nat → Int
  | 0 => 0
  | n + 1 => add (lenN ps n) (sideL ps n)
theorem lenN_zero (ps : List Pt) : lenN ps 0 = 0 := rfl
theorem lenN_step (ps : List Pt) (n : Nat) : add (lenN ps n) (sideL ps n) = lenN ps (n + 1) := rfl
theorem lenN_in (ps : List Pt) : ∀ n, 0 ≤ lenN ps n ∧ lenN ps n ≤ 1099511627776
  | 0 => by simp [lenN]
  | n + 1 => by
    have ih := lenN_in ps n
    have h0 := sideL_lo ps n
    have h1 := sideL_hi ps n
    rw [← lenN_step]
    unfold add
    rw [hold_in (a := lenN ps n) (by omega) (by omega), hold_in (a := sideL ps n) (by omega) (by omega)]
    refine ⟨?_, hold_hi _⟩
    have := hold_mono (a := 0) (b := lenN ps n + sideL ps n) (by omega)
    rwa [hold_in (a := 0) (by omega) (by omega)] at this
theorem add_near {s l : Int} (s0 : 0 ≤ s) (s1 : s ≤ 1099511627776) (l0 : 0 ≤ l) (l1 : l ≤ 1518500249) : add s l = hold (s + l) := by
  unfold add
  rw [hold_in (a := s) (by omega) (by omega), hold_in (a := l) (by omega) (by omega)]
/-- Below Great a held sum passes a number just where the sum does. -/
theorem add_past {s l f : Int} (s0 : 0 ≤ s) (s1 : s ≤ 1099511627776) (l0 : 0 ≤ l) (l1 : l ≤ 1518500249) (hf : f < 1099511627776) : f < add s l ↔ f < s + l := by
  rw [add_near s0 s1 l0 l1]
  by_cases h : s + l ≤ 1099511627776
  · rw [hold_in (by omega) h]
  · rw [hold_ge (by omega)]; omega
def lengthL (c : Bool) (ps : List Pt) : Int := lenN ps (sidesN c ps.length)
/-- The place that lies d of l on the way from a to b. -/
def onP (a b : Pt) (d l : Int) : Pt := if hold d ≤ 0 then plc a else if l ≤ hold d then plc b else ⟨mid (place a.x) (place b.x) (dv (hold d) l), mid (place a.y) (place b.y) (dv (hold d) l)⟩
theorem onP_a {a b : Pt} {d l : Int} (h : hold d ≤ 0) : onP a b d l = plc a := if_pos h
theorem onP_b {a b : Pt} {d l : Int} (h : ¬ hold d ≤ 0) (h2 : l ≤ hold d) : onP a b d l = plc b := by unfold onP; rw [if_neg h, if_pos h2]
theorem onP_mid {a b : Pt} {d l : Int} (h : ¬ hold d ≤ 0) (h2 : ¬ l ≤ hold d) : onP a b d l = ⟨mid (place a.x) (place b.x) (dv (hold d) l), mid (place a.y) (place b.y) (dv (hold d) l)⟩ := by unfold onP; rw [if_neg h, if_neg h2]
/-- Whether side i has a piece between f and t. -/
def hit (ps : List Pt) (f t : Int) (i : Nat) : Prop := 0 < sideL ps i ∧ f < lenN ps i + sideL ps i ∧ lenN ps i < t
instance (ps : List Pt) (f t : Int) (i : Nat) : Decidable (hit ps f t i) := by unfold hit; infer_instance
def fromP (ps : List Pt) (f : Int) (i : Nat) : Pt := onP (sa ps i) (sb ps i) (f - lenN ps i) (sideL ps i)
/-- What the first n sides have between f and t. -/
def cutN (ps : List Pt) (f t : Int) : Nat → List Pt
  | 0 => []
  | n + 1 => if hit ps f t n then (if (cutN ps f t n).length = 0 then [fromP ps f n] else cutN ps f t n) ++ [fromP ps t n] else cutN ps f t n
theorem cutN_zero (ps : List Pt) (f t : Int) : cutN ps f t 0 = [] := rfl
theorem cutN_off {ps : List Pt} {f t : Int} {n : Nat} (h : ¬ hit ps f t n) : cutN ps f t (n + 1) = cutN ps f t n := by rw [cutN, if_neg h]
theorem cutN_first {ps : List Pt} {f t : Int} {n : Nat} (h : hit ps f t n) (h0 : (cutN ps f t n).length = 0) : cutN ps f t (n + 1) = [fromP ps f n] ++ [fromP ps t n] := by rw [cutN, if_pos h, if_pos h0]
theorem cutN_more {ps : List Pt} {f t : Int} {n : Nat} (h : hit ps f t n) (h0 : ¬ (cutN ps f t n).length = 0) : cutN ps f t (n + 1) = cutN ps f t n ++ [fromP ps t n] := by rw [cutN, if_pos h, if_neg h0]
theorem cutN_length (ps : List Pt) (f t : Int) : ∀ n, (cutN ps f t n).length ≤ n + 1
  | 0 => by simp [cutN]
  | n + 1 => by
    have ih := cutN_length ps f t n
    by_cases h : hit ps f t n
    · by_cases h0 : (cutN ps f t n).length = 0
      · rw [cutN_first h h0]; simp
      · rw [cutN_more h h0]; simp; omega
    · rw [cutN_off h]; omega
def cutL (c : Bool) (ps : List Pt) (f t : Int) : List Pt := if hold t ≤ hold f then [] else cutN ps (hold f) (hold t) (sidesN c ps.length)
theorem cutL_no {c : Bool} {ps : List Pt} {f t : Int} (h : hold t ≤ hold f) : cutL c ps f t = [] := if_pos h
theorem cutL_yes {c : Bool} {ps : List Pt} {f t : Int} (h : ¬ hold t ≤ hold f) : cutL c ps f t = cutN ps (hold f) (hold t) (sidesN c ps.length) := if_neg h
theorem cutL_length (c : Bool) (ps : List Pt) (f t : Int) : (cutL c ps f t).length ≤ ps.length + 1 := by
  unfold cutL
  split
  · simp
  · have := cutN_length ps (hold f) (hold t) (sidesN c ps.length)
    have := sidesN_le c ps.length
    omega

end M
end Go.Proofs.Ytglbfpjjnboeaaa

namespace Go.Proofs.Ytglbfpjjnboeaaa
namespace M

/-- Number i of a list. -/
def nm (ds : List Int) (i : Nat) : Int := ds.getD i 0
theorem nm_cons (d : Int) (ds : List Int) (i : Nat) : nm (d :: ds) (i + 1) = nm ds i := by simp [nm]
theorem nm_zero (d : Int) (ds : List Int) : nm (d :: ds) 0 = d := by simp [nm]
theorem nm_left {ds : List Int} {d : Int} {i : Nat} (h : i < ds.length) : nm (ds ++ [d]) i = nm ds i := by unfold nm; simp [List.getD, List.getElem?_append_left h]
theorem nm_last (ds : List Int) (d : Int) : nm (ds ++ [d]) ds.length = d := by unfold nm; simp [List.getD]
/-- Whether a dash, or a gap, may be so long. -/
def okN (d : Int) : Prop := 65536 ≤ d ∧ d ≤ 67108864
instance (d : Int) : Decidable (okN d) := by unfold okN; infer_instance
def okA (ds : List Int) : Prop := ∀ i, i < ds.length → okN (nm ds i)
instance (ds : List Int) : Decidable (okA ds) := by unfold okA; infer_instance
/-- Right. -/
def okD (ds : List Int) : Bool := decide (ds.length ≤ 8 ∧ okA ds)
theorem okD_many {ds : List Int} (h : 8 < ds.length) : okD ds = false := by unfold okD; rw [decide_eq_false]; omega
theorem okD_bad {ds : List Int} {i : Nat} (hi : i < ds.length) (h : ¬ okN (nm ds i)) : okD ds = false := by
  unfold okD
  rw [decide_eq_false]
  exact fun e => h (e.2 i hi)
theorem okD_yes {ds : List Int} (h8 : ds.length ≤ 8) (h : ∀ i, i < ds.length → okN (nm ds i)) : okD ds = true := by
  unfold okD
  rw [decide_eq_true]
  exact ⟨h8, h⟩
theorem okD_all {ds : List Int} (h : ∀ i, i < ds.length → okN (nm ds i)) : okD ds = decide ((ds.length : Int) ≤ 8) := by
  by_cases h8 : ds.length ≤ 8
  · rw [okD_yes h8 h, decide_eq_true]; omega
  · rw [okD_many (by omega), decide_eq_false]; omega
theorem okD_few {ds : List Int} (h : okD ds = true) : ds.length ≤ 8 ∧ okA ds := by
  unfold okD at h
  simpa using h

/-- Number i, gone through round and round. -/
def tn (ds : List Int) (i : Nat) : Int := nm ds (i % ds.length)
/-- Where dash or gap k begins. -/
def mk (ds : List Int) : Nat → Int
  | 0 => 0
  | k + 1 => mk ds k + tn ds k
theorem mk_zero (ds : List Int) : mk ds 0 = 0 := rfl
theorem mk_step (ds : List Int) (k : Nat) : mk ds (k + 1) = mk ds k + tn ds k := rfl
theorem tn_in {ds : List Int} (h : okD ds = true) (h0 : 0 < ds.length) (i : Nat) : 65536 ≤ tn ds i ∧ tn ds i ≤ 67108864 := (okD_few h).2 _ (Nat.mod_lt _ h0)
theorem mk_in {ds : List Int} (h : okD ds = true) (h0 : 0 < ds.length) : ∀ k : Nat, 0 ≤ mk ds k ∧ mk ds k ≤ k * 67108864
  | 0 => by simp [mk]
  | k + 1 => by
    have ih := mk_in h h0 k
    have t := tn_in h h0 k
    rw [mk_step]
    omega
theorem mk_up {ds : List Int} (h : okD ds = true) (h0 : 0 < ds.length) {i : Nat} : ∀ {j : Nat}, i ≤ j → mk ds i ≤ mk ds j
  | 0, hij => by
    obtain rfl : i = 0 := by omega
    exact Int.le_refl _
  | j + 1, hij => by
    by_cases e : i = j + 1
    · rw [e]; exact Int.le_refl _
    · have ih := mk_up h h0 (i := i) (j := j) (by omega)
      have t := tn_in h h0 j
      rw [mk_step]
      omega
theorem add_mk {ds : List Int} (h : okD ds = true) (h0 : 0 < ds.length) {k : Nat} (hk : k ≤ 200) : add (mk ds k) (tn ds k) = mk ds (k + 1) := by
  have a := mk_in h h0 k
  have t := tn_in h h0 k
  unfold add
  rw [hold_in (a := mk ds k) (by omega) (by omega), hold_in (a := tn ds k) (by omega) (by omega), hold_in (by omega) (by omega), mk_step]
theorem tn_mod {ds : List Int} (i : Nat) : Int.tmod (i : Int) (ds.length : Int) = ((i % ds.length : Nat) : Int) := by
  rw [Int.tmod_eq_emod_of_nonneg (by omega)]
  simp
/-- Dash n. -/
def dashP (c : Bool) (ps : List Pt) (ds : List Int) (n : Nat) : List Pt := cutL c ps (mk ds (2 * n)) (mk ds (2 * n + 1))
theorem dashP_length (c : Bool) (ps : List Pt) (ds : List Int) (n : Nat) : (dashP c ps ds n).length ≤ ps.length + 1 := cutL_length _ _ _ _
/-- The first n dashes. -/
def dashN (c : Bool) (ps : List Pt) (ds : List Int) : Nat → List (Bool × List Pt)
  | 0 => []
  | n + 1 => if mk ds (2 * n) < lengthL c ps ∧ 2 ≤ (dashP c ps ds n).length then dashN c ps ds n ++ [(false, dashP c ps ds n)] else dashN c ps ds n
theorem dashN_zero (c : Bool) (ps : List Pt) (ds : List Int) : dashN c ps ds 0 = [] := rfl
theorem dashN_yes {c : Bool} {ps : List Pt} {ds : List Int} {n : Nat} (h : mk ds (2 * n) < lengthL c ps) (h2 : 2 ≤ (dashP c ps ds n).length) : dashN c ps ds (n + 1) = dashN c ps ds n ++ [(false, dashP c ps ds n)] := if_pos ⟨h, h2⟩
theorem dashN_no {c : Bool} {ps : List Pt} {ds : List Int} {n : Nat} (h2 : ¬ 2 ≤ (dashP c ps ds n).length) : dashN c ps ds (n + 1) = dashN c ps ds n := if_neg fun h => h2 h.2
theorem dashN_off {c : Bool} {ps : List Pt} {ds : List Int} {n : Nat} (h : ¬ mk ds (2 * n) < lengthL c ps) : dashN c ps ds (n + 1) = dashN c ps ds n := if_neg fun e => h e.1
theorem dashN_length (c : Bool) (ps : List Pt) (ds : List Int) : ∀ n, (dashN c ps ds n).length ≤ n
  | 0 => by simp [dashN]
  | n + 1 => by
    have ih := dashN_length c ps ds n
    rw [dashN]
    split
    · simp; omega
    · omega
/-- From the first dash on that would begin at the line's end or behind it nothing comes. -/
theorem dashN_end {c : Bool} {ps : List Pt} {ds : List Int} (h : okD ds = true) (h0 : 0 < ds.length) {n : Nat} (hn : lengthL c ps ≤ mk ds (2 * n)) : ∀ {m : Nat}, n ≤ m → dashN c ps ds m = dashN c ps ds n
  | 0, hm => by
    obtain rfl : n = 0 := by omega
    rfl
  | m + 1, hm => by
    by_cases e : n = m + 1
    · rw [e]
    · have ih := dashN_end h h0 hn (m := m) (by omega)
      have u := mk_up h h0 (i := 2 * n) (j := 2 * m) (by omega)
      rw [dashN_off (by omega), ih]
/-- Of. -/
def dashL (c : Bool) (ps : List Pt) (ds : List Int) : List (Bool × List Pt) := if ds.length = 0 ∨ okD ds = false then [(c, ps)] else dashN c ps ds 64
theorem dashL_none {c : Bool} {ps : List Pt} {ds : List Int} (h : ds.length = 0) : dashL c ps ds = [(c, ps)] := if_pos (Or.inl h)
theorem dashL_bad {c : Bool} {ps : List Pt} {ds : List Int} (h : okD ds = false) : dashL c ps ds = [(c, ps)] := if_pos (Or.inr h)
theorem dashL_some {c : Bool} {ps : List Pt} {ds : List Int} (h0 : 0 < ds.length) (h : okD ds = true) : dashL c ps ds = dashN c ps ds 64 := if_neg fun e => by rcases e with e | e; omega; rw [h] at e; cases e
theorem dashL_length (c : Bool) (ps : List Pt) (ds : List Int) : (dashL c ps ds).length ≤ 64 := by
  unfold dashL
  split
  · simp
  · exact dashN_length _ _ _ _

end M
end Go.Proofs.Ytglbfpjjnboeaaa

namespace Go.Proofs.Ytglbfpjjnboeaaa
open Go Go.RowKit
open M

theorem and_quad (c : Int) : bits .and .i64 c 262143 = c % 262144 := by
  show IntKind.i64.wrap ((BitVec.ofInt 64 c &&& BitVec.ofInt 64 (262143 : Int)).toNat : Int) = _
  have e0 : (BitVec.ofInt 64 (262143 : Int)).toNat = 262143 := by decide
  have e1 : (BitVec.ofInt 64 c).toNat = (c % 18446744073709551616).toNat := by rw [BitVec.toNat_ofInt]; rfl
  have e2 : ∀ n : Nat, n &&& 262143 = n % 262144 := fun n => Nat.and_two_pow_sub_one_eq_mod n 18
  rw [BitVec.toNat_and, e0, e1, e2, IntKind.wrap_i64]
  omega
/-- The slice's value v holds just these numbers. -/
def Isl (w : World) (v : Value) (ds : List Int) : Prop := ∃ ao cap, v = .slice ao ds.length cap ∧ ds.length ≤ 8796093022208 ∧ (0 < ds.length → ∃ g o, ao = some ⟨g, o, none⟩ ∧ ∀ i, i < ds.length → w.cell? ⟨g, o + i, none⟩ = some (.int .i64 (nm ds i)))
theorem Isl.few {w : World} {v : Value} {ds : List Int} (h : Isl w v ds) : ds.length ≤ 8796093022208 := by
  obtain ⟨_, _, _, h, _⟩ := h
  exact h
theorem Isl.slice {w : World} {v : Value} {ds : List Int} (h : Isl w v ds) : ∃ ao cap, v = .slice ao ds.length cap := by
  obtain ⟨ao, cap, h, _⟩ := h
  exact ⟨ao, cap, h⟩
theorem Isl.blocks {w w' : World} {v : Value} {ds : List Int} (h : Isl w v ds) (hb : ∀ k, k < w.heap.size → v.ownBlock = some k → w'.heap[k]? = w.heap[k]?) : Isl w' v ds := by
  obtain ⟨ao, cap, rfl, hf, hr⟩ := h
  refine ⟨ao, cap, rfl, hf, fun h0 => ?_⟩
  obtain ⟨g, o, rfl, hr'⟩ := hr h0
  exact ⟨g, o, rfl, fun i hi => (World.cell?_of_block (a := ⟨g, _, _⟩) (hb g (World.block_lt_of_cell? w _ (hr' 0 h0)) rfl)).trans (hr' i hi)⟩
theorem Isl.below {w w' : World} {v : Value} {ds : List Int} (h : Isl w v ds) (hb : Below w.heap.size w w') : Isl w' v ds := h.blocks fun k hk _ => hb.block k hk
theorem Isl.alloc {w : World} {v : Value} {ds : List Int} (h : Isl w v ds) (o : Obj) : Isl (w.alloc o) v ds := h.blocks fun k hk _ => (MapKept.heap_alloc w o).2 k hk
theorem Isl.at {w : World} {ao : Option Addr} {N cap : Nat} {ds : List Int} (h : Isl w (.slice ao N cap) ds) (h0 : 0 < N) : ds.length = N ∧ ∃ g o, ao = some ⟨g, o, none⟩ ∧ ∀ i, i < N → w.cell? ⟨g, o + i, none⟩ = some (.int .i64 (nm ds i)) := by
  obtain ⟨ao', cap', e, hf, hr⟩ := h
  simp only [Value.slice.injEq] at e
  obtain ⟨rfl, rfl, rfl⟩ := e
  exact ⟨rfl, hr h0⟩
theorem isl_nil (w : World) (ao : Option Addr) (cap : Nat) : Isl w (.slice ao 0 cap) [] := ⟨ao, cap, rfl, by simp, fun h => by simp at h⟩
theorem isl_lit {w : World} {g n c : Nat} {ds : List Int} {cs : Array Value} {t : TypeId} (hn : ds.length = n) (hf : n ≤ 8796093022208) (h : Has w g cs t) (hc : cs.toList = ds.map (Value.int .i64)) : Isl w (.slice (some ⟨g, 0, none⟩) n c) ds := by
  subst hn
  refine ⟨_, c, rfl, hf, fun _ => ⟨g, 0, rfl, fun i hi => ?_⟩⟩
  rw [Nat.zero_add]
  refine h.cell i _ ?_
  have : cs.toList[i]? = some (.int .i64 (nm ds i)) := by rw [hc]; simp [nm, List.getD, hi]
  simpa using this

theorem d_right {v : Value} {ds : List Int} {w : World} (h : Isl w v ds) : Calls Try.prog 48 #[v] w fun e w' => e = .returned (.bool (okD ds)) ∧ w = w' := by
  have hf := h.few
  obtain ⟨ao, cap, rfl⟩ := h.slice
  by_cases h8 : 8 < ds.length
  · rw [okD_many h8]
    have o1 : (8 : Int) < ds.length := by omega
    clear h
    go_enter Try.func48, Try.ntmps48
    go_wp2
    go_ret
    exact ⟨rfl, rfl⟩
  · have o1 : ¬ (8 : Int) < ds.length := by omega
    obtain ⟨N, hN⟩ : ∃ N, ds.length = N := ⟨_, rfl⟩
    have HN := Lib.hid hN
    rw [hN] at h hf h8 o1 ⊢
    have HS := Lib.hid h
    clear h hN
    go_enter Try.func48, Try.ntmps48
    go_wp2
    go_loop [10] (fun i => ∃ n : Nat, n ≤ N ∧ i = .int .i64 n ∧ ∀ j, j < n → okN (nm ds j)) (fun i => N - (intOf i).toNat)
    case atStart => exact ⟨0, by omega, rfl, fun j hj => by omega⟩
    case round =>
      obtain ⟨n, hn, rfl, ha⟩ := hrel
      have HA := Lib.hid ha
      clear ha
      by_cases hlt : n < N
      · obtain ⟨_, g, o, e1, hc⟩ := HS.out.at (by omega)
        subst e1
        have c0 := hc n hlt
        have o3 : (n : Int) < N := by omega
        have o4 : n < N := hlt
        obtain ⟨d, hd⟩ : ∃ d, nm ds n = d := ⟨_, rfl⟩
        rw [hd] at c0
        have HD := Lib.hid hd
        clear hd hc
        by_cases h1 : d < 65536
        · have E : Hid (okD ds = false) := Lib.hid (okD_bad (i := n) (by rw [HN.out]; exact hlt) (by rw [HD.out]; intro e; have := e.1; omega))
          go_wp2
          go_ret
          exact ⟨by rw [E.out]; rfl, rfl⟩
        · by_cases h2 : 67108864 < d
          · have E : Hid (okD ds = false) := Lib.hid (okD_bad (i := n) (by rw [HN.out]; exact hlt) (by rw [HD.out]; intro e; have := e.2; omega))
            go_wp2
            go_ret
            exact ⟨by rw [E.out]; rfl, rfl⟩
          · have E : Hid (okN d) := Lib.hid ⟨by omega, by omega⟩
            go_wp2
            go_round
            case rel => exact ⟨n + 1, by omega, by go_num, fun j hj => by
              by_cases e : j = n
              · rw [e, HD.out]; exact E.out
              · exact HA.out j (by omega)⟩
            case measure => simp [intOf]; omega
      · obtain rfl : n = N := by omega
        have E : Hid (okD ds = true) := Lib.hid (okD_yes (by rw [HN.out]; omega) (fun i hi => HA.out i (by rw [HN.out] at hi; exact hi)))
        have o3 : ¬ (n : Int) < n := by omega
        go_wp2
        go_ret
        exact ⟨by rw [E.out]; rfl, rfl⟩

end Go.Proofs.Ytglbfpjjnboeaaa

namespace Go.Proofs.Ytglbfpjjnboeaaa
open Go.RowKit
open M

/-- The keys without their colours, of the call's own. -/
def Bared (w : World) (ks : List Ck) (e : Ending) (w' : World) : Prop := ∃ v, e = .returned v ∧ Own w' w.heap.size v (bares ks) ∧ Below w.heap.size w w'
theorem bare_put {w wr : World} {B g cap N n : Nat} {ks : List Ck} {qs : List Ky} {k : Ck} {o : Obj} (hk : ck ks n = k) (hsz : B ≤ wr.heap.size) (hq : qs.length = N) (hn : n < N) (hst : ∀ j, j < n → ky qs j = bare (ck ks j)) (hown : Own wr B (.slice (some ⟨g, 0, none⟩) N cap) qs) (hb : Below B w wr) :
    ∃ qs : List Ky, qs.length = N ∧ (∀ j, j < n + 1 → ky qs j = bare (ck ks j)) ∧
      Own ((((((((wr.alloc o).setCell ⟨g, n * 7, none⟩ (.int .i64 k.t)).setCell ⟨g, n * 7 + 1, none⟩ (.int .i64 0)).setCell ⟨g, n * 7 + 2, none⟩ (.int .i64 k.h)).setCell ⟨g, n * 7 + 3, none⟩ (.int .i64 k.a)).setCell ⟨g, n * 7 + 4, none⟩ (.int .i64 k.b)).setCell ⟨g, n * 7 + 5, none⟩ (.int .i64 k.c)).setCell ⟨g, n * 7 + 6, none⟩ (.int .i64 k.d)) B (.slice (some ⟨g, 0, none⟩) N cap) qs ∧
      Below B w ((((((((wr.alloc o).setCell ⟨g, n * 7, none⟩ (.int .i64 k.t)).setCell ⟨g, n * 7 + 1, none⟩ (.int .i64 0)).setCell ⟨g, n * 7 + 2, none⟩ (.int .i64 k.h)).setCell ⟨g, n * 7 + 3, none⟩ (.int .i64 k.a)).setCell ⟨g, n * 7 + 4, none⟩ (.int .i64 k.b)).setCell ⟨g, n * 7 + 5, none⟩ (.int .i64 k.c)).setCell ⟨g, n * 7 + 6, none⟩ (.int .i64 k.d)) := by
  have hg := hown.base.1
  have h0 : Own (wr.alloc o) B (.slice (some ⟨g, 0, none⟩) N cap) (qs.set n (ky qs n)) := by rw [set_self]; exact hown.alloc o
  have h1 := h0.put' hq hn 0 (n * 7) (by decide) rfl k.t
  have h2 := h1.put' hq hn 1 (n * 7 + 1) (by decide) rfl 0
  have h3 := h2.put' hq hn 2 (n * 7 + 2) (by decide) rfl k.h
  have h4 := h3.put' hq hn 3 (n * 7 + 3) (by decide) rfl k.a
  have h5 := h4.put' hq hn 4 (n * 7 + 4) (by decide) rfl k.b
  have h6 := h5.put' hq hn 5 (n * 7 + 5) (by decide) rfl k.c
  have h7 := h6.put' hq hn 6 (n * 7 + 6) (by decide) rfl k.d
  refine ⟨qs.set n (bare k), by simpa using hq, ?_, h7, (((((((hb.alloc hsz o).setCell hg _).setCell hg _).setCell hg _).setCell hg _).setCell hg _).setCell hg _).setCell hg _⟩
  intro j hj
  by_cases e : n = j
  · subst e; rw [ky_set_eq (by omega), hk]
  · rw [ky_set_ne e]; exact hst j (by omega)
theorem bared_all {ks : List Ck} {qs : List Ky} (hq : qs.length = ks.length) (h : ∀ j, j < ks.length → ky qs j = bare (ck ks j)) : qs = bares ks := by
  apply List.ext_getElem?
  intro j
  by_cases hj : j < ks.length
  · have := h j hj
    rw [← ky_bares] at this
    unfold ky at this
    rw [List.getD_eq_getElem?_getD, List.getD_eq_getElem?_getD, List.getElem?_eq_getElem (by omega), List.getElem?_eq_getElem (by rw [bares_length]; exact hj)] at this
    rw [List.getElem?_eq_getElem (by omega), List.getElem?_eq_getElem (by rw [bares_length]; exact hj)]
    exact congrArg some this
  · rw [List.getElem?_eq_none (by omega), List.getElem?_eq_none (by rw [bares_length]; omega)]

set_option maxHeartbeats 2000000 in
theorem h_bare1 (g o cap : Nat) (ks : List Ck) (w : World) (hr : Crow w g o ks) (hn : 0 < ks.length) (hf : ks.length ≤ 1000) :
    Calls Try.prog 64 #[.slice (some ⟨g, o, none⟩) ks.length cap] w (Bared w ks) := by
  obtain ⟨i0, hi, hz0, hz1, hz2⟩ := info_parts Try.infoKey
  have hg := hr.lt hn
  have HR := Lib.hid hr
  clear hr
  obtain ⟨B, hB⟩ : ∃ B, w.heap.size = B := ⟨_, rfl⟩
  rw [hB] at hg
  have HW := Lib.hid hB
  obtain ⟨N, hN⟩ : ∃ N, ks.length = N := ⟨_, rfl⟩
  rw [hN] at hn hf ⊢
  have HN := Lib.hid hN
  clear hN
  go_enter Try.func64, Try.ntmps64
  go_wp2_with (at_make; refine wpList_make_full _ rfl _ _ 26 rfl B 63 i0 (.agg #[.int .i64 0, .int .i64 0, .int .i64 0, .int .i64 0, .int .i64 0, .int .i64 0, .int .i64 0]) 7 Try.underlying26 hi hz0 hz1 _ _ _ _ N rfl rfl rfl rfl ?m1 ?m2 ?m3 ?_)
  case m1 => rw [hz2]; omega
  case m2 => unfold maxLen; omega
  case m3 => omega
  intro w3 hown3 hg3
  have hb3 : Below B w w3 := (Below.refl _ _).grown hg3 (by omega) (fun k hk => by cases hk)
  have ho3 : Own w3 B (.slice (some ⟨B, 0, none⟩) N N) (List.replicate N default) := by
    unfold Own
    rw [← made_keys, List.length_replicate, ← hB]
    rw [← hB] at hown3
    exact hown3
  have R0 : Hid (∃ qs : List Ky, qs.length = N ∧ (∀ j, j < 0 → ky qs j = bare (ck ks j)) ∧ Own w3 B (.slice (some ⟨B, 0, none⟩) N N) qs ∧ Below B w w3) := Lib.hid ⟨_, by simp, fun j hj => by omega, ho3, hb3⟩
  clear hown3 hg3 hb3 ho3 hB
  go_wp2
  go_loopw [4, 5, 11] (fun _ _ i wr => ∃ n : Nat, n ≤ N ∧ i = .int .i64 n ∧ ∃ qs : List Ky, qs.length = N ∧ (∀ j, j < n → ky qs j = bare (ck ks j)) ∧ Own wr B (.slice (some ⟨B, 0, none⟩) N N) qs ∧ Below B w wr) (fun _ _ i _ => N - (intOf i).toNat)
  case atStart => exact ⟨0, by omega, rfl, R0.out⟩
  case round =>
    clear R0
    obtain ⟨n, hn', rfl, qs, hq, hst, hown, hb⟩ := hrel
    by_cases hlt : n < N
    · have hr := HR.out.below hb hg
      have hln : n < ks.length := by have := HN.out; omega
      have c0 := hr.c0 n hln
      have c1 := hr.c1 n hln
      have c2 := hr.c2 n hln
      have c3 := hr.c3 n hln
      have c4 := hr.c4 n hln
      have c5 := hr.c5 n hln
      have c6 := hr.c6 n hln
      have c7 := hr.c7 n hln
      have c8 := hr.c8 n hln
      have c9 := hr.c9 n hln
      obtain ⟨k, hk⟩ : ∃ k, ck ks n = k := ⟨_, rfl⟩
      rw [hk] at c0 c1 c2 c3 c4 c5 c6 c7 c8 c9
      have hsz : B ≤ wr.heap.size := by have := hb.size; have := HW.out; omega
      have R := Lib.hid (bare_put (o := .cells (kkCells k) 67) hk hsz hq hlt hst hown hb)
      have ho2 : Own (wr.alloc (.cells (kkCells k) 67)) B (.slice (some ⟨B, 0, none⟩) N N) qs := hown.alloc _
      have hr2 := ho2.row (by omega) (by omega)
      have d0 := hr2.c0 n (by omega)
      have d1 := hr2.c1 n (by omega)
      have d2 := hr2.c2 n (by omega)
      have d3 := hr2.c3 n (by omega)
      have d4 := hr2.c4 n (by omega)
      have d5 := hr2.c5 n (by omega)
      have d6 := hr2.c6 n (by omega)
      rw [Nat.zero_add] at d0 d1 d2 d3 d4 d5 d6
      have fz := ho2.fro hq
      have o1 : (n : Int) < N := by omega
      clear hr hr2 ho2 hq hst hown hb hk
      obtain ⟨kt, ⟨kr, kg, kb, kq⟩, kh, ka, ke, kf, kd⟩ := k
      simp only at c0 c1 c2 c3 c4 c5 c6 c7 c8 c9
      go_wp2
      go_roundw
      case rel => exact ⟨n + 1, by omega, by go_num, R.out⟩
      case measure => simp [intOf]; omega
    · have en : n = N := by omega
      have eq := bared_all (ks := ks) (qs := qs) (by rw [HN.out]; exact hq) (fun j hj => hst j (by have := HN.out; omega))
      have R : Bared w ks (.returned (.slice (some ⟨B, 0, none⟩) N N)) wr := ⟨_, rfl, by rw [HW.out, ← eq]; exact hown, by rw [HW.out]; exact hb⟩
      have RH := Lib.hid R
      have o1 : (N : Int) ≤ n := by omega
      clear R hown hb hst hq eq en
      go_wp2
      go_ret
      exact RH.out
set_option maxHeartbeats 1000000 in
theorem h_bare0 (ao : Option Addr) (cap : Nat) (w : World) :
    Calls Try.prog 64 #[.slice ao 0 cap] w (Bared w []) := by
  obtain ⟨i0, hi, hz0, hz1, hz2⟩ := info_parts Try.infoKey
  go_enter Try.func64, Try.ntmps64
  go_wp2_with (at_make; refine wpList_make_full _ rfl _ _ 26 rfl w.heap.size 63 i0 (.agg #[.int .i64 0, .int .i64 0, .int .i64 0, .int .i64 0, .int .i64 0, .int .i64 0, .int .i64 0]) 7 Try.underlying26 hi hz0 hz1 _ _ _ _ 0 rfl rfl rfl rfl ?m1 ?m2 ?m3 ?_)
  case m1 => rw [hz2]; omega
  case m2 => unfold maxLen; omega
  case m3 => omega
  intro w3 hown3 hg3
  have e := made_keys 0
  rw [Nat.zero_mul] at e
  rw [e] at hown3
  have R : Bared w [] (.returned (.slice (some ⟨w.heap.size, 0, none⟩) 0 0)) w3 := ⟨_, rfl, hown3, (Below.refl _ _).grown hg3 (by omega) (fun k hk => by cases hk)⟩
  have RH := Lib.hid R
  clear R hown3 hg3 e
  go_wp2
  go_loop [4, 5, 11] (fun _ _ i => i = .int .i64 0) (fun _ _ _ => 0)
  case atStart => rfl
  case round =>
    subst hrel
    go_wp2
    go_ret
    exact RH.out
theorem h_bare {v : Value} {ks : List Ck} {w : World} (h : Csl w v ks) (hf : ks.length ≤ 1000) : Calls Try.prog 64 #[v] w (Bared w ks) := by
  rcases h with ⟨rfl, ao, cap, rfl⟩ | ⟨hn, g, o, cap, rfl, hr⟩
  · exact h_bare0 ao cap w
  · exact h_bare1 g o cap ks w hr hn hf
theorem Csl.len {w : World} {v : Value} {ks : List Ck} (h : Csl w v ks) : ks.length ≤ 8796093022208 ∧ ∃ ao cap, v = .slice ao ks.length cap := by
  rcases h with ⟨rfl, ao, cap, rfl⟩ | ⟨_, g, o, cap, rfl, hr⟩
  · exact ⟨by simp, ao, cap, rfl⟩
  · exact ⟨hr.few, _, cap, rfl⟩
theorem h_right {v : Value} {ks : List Ck} {w : World} (h : Csl w v ks) :
    Calls Try.prog 47 #[v] w fun e w' => e = .returned (.bool (right (bares ks))) ∧ Below w.heap.size w w' := by
  obtain ⟨hf, ao, cap, rfl⟩ := h.len
  by_cases h32 : ks.length ≤ 32
  · have HB := Lib.hid (h_bare h (by omega))
    have o1 : (ks.length : Int) ≤ 32 := by omega
    clear h
    go_enter Try.func47, Try.ntmps47
    go_wp2_with fail
    refine HB.out.mono ?_
    rintro e w1 ⟨v, rfl, hown, hb⟩
    have HS := Lib.hid (hown.sl (by rw [bares_length]; exact hf))
    have HB1 := Lib.hid hb
    clear hown hb HB
    go_wp2_with fail
    refine (k_right HS.out).mono ?_
    rintro e w2 ⟨rfl, hq⟩
    have HB2 := Lib.hid (HB1.out.trans (hq.mono HB1.out.size))
    clear hq HS HB1
    go_wp2
    go_ret
    exact ⟨rfl, HB2.out⟩
  · have e : right (bares ks) = false := by unfold right; rw [bares_length]; simp [h32]
    rw [e]
    have o1 : (32 : Int) < ks.length := by omega
    clear h e
    go_enter Try.func47, Try.ntmps47
    go_wp2
    go_ret
    exact ⟨rfl, Below.refl _ _⟩

end Go.Proofs.Ytglbfpjjnboeaaa

namespace Go.Proofs.Ytglbfpjjnboeaaa
open Go Go.RowKit
open M

structure Shp where
  form : Int
  n : Int
  W : List Ky
  vW : Value
  H : List Ky
  vH : Value
  P : List Pk
  vP : Value
  fill : Bool
  rule : Int
  kind : Int
  a : Cr
  b : Cr
  p : Pt
  q : Pt
  r : Int
  C : List Ck
  vC : Value
  stroke : Bool
  Wd : List Ky
  vWd : Value
  line : Cr
  cap : Int
  D : List Int
  vD : Value
  F : List Ky
  vF : Value
  T : List Ky
  vT : Value
/-- The cells of its paint. -/
abbrev paC (k : Int) (a b : Cr) (p q : Pt) (r : Int) : Array Value := #[.int .i64 k, .int .u8 a.r, .int .u8 a.g, .int .u8 a.b, .int .u8 a.q, .int .u8 b.r, .int .u8 b.g, .int .u8 b.b, .int .u8 b.q, .int .i64 p.x, .int .i64 p.y, .int .i64 q.x, .int .i64 q.y, .int .i64 r]
/-- Its cells. -/
abbrev shC (s : Shp) : Array Value := #[.int .i64 s.form, .int .i64 s.n, s.vW, s.vH, s.vP, .bool s.fill, .int .i64 s.rule,
  .int .i64 s.kind, .int .u8 s.a.r, .int .u8 s.a.g, .int .u8 s.a.b, .int .u8 s.a.q, .int .u8 s.b.r, .int .u8 s.b.g, .int .u8 s.b.b, .int .u8 s.b.q, .int .i64 s.p.x, .int .i64 s.p.y, .int .i64 s.q.x, .int .i64 s.q.y, .int .i64 s.r,
  s.vC, .bool s.stroke, s.vWd, .int .u8 s.line.r, .int .u8 s.line.g, .int .u8 s.line.b, .int .u8 s.line.q, .int .i64 s.cap, s.vD, s.vF, s.vT]
structure ShIn (w : World) (s : Shp) : Prop where
  W : Sl w s.vW s.W
  H : Sl w s.vH s.H
  P : Kl w s.vP s.P
  C : Csl w s.vC s.C
  Wd : Sl w s.vWd s.Wd
  D : Isl w s.vD s.D
  F : Sl w s.vF s.F
  T : Sl w s.vT s.T
theorem ShIn.below {w w' : World} {s : Shp} (h : ShIn w s) (hb : Below w.heap.size w w') : ShIn w' s :=
  ⟨h.W.below hb, h.H.below hb, h.P.below hb, h.C.below hb, h.Wd.below hb, h.D.below hb, h.F.below hb, h.T.below hb⟩
def formOk (s : Shp) : Bool :=
  if s.form = 0 ∨ s.form = 1 then decide (s.n = 0) && decide (s.P.length = 0)
  else if s.form = 2 then decide (2 ≤ s.n) && decide (s.n ≤ 16) && decide (s.P.length = 0)
  else if s.form = 3 then decide (s.n = 0) && decide (s.W.length = 0) && decide (s.H.length = 0)
  else false
def lineOk (s : Shp) : Bool := right s.W && right s.H && keysOk s.P
def paintOk (s : Shp) : Bool := decide (s.kind = 0 ∨ s.kind = 1 ∨ s.kind = 2) && (nearN s.p.x && nearN s.p.y && nearN s.q.x && nearN s.q.y && nearN s.r)
def fillOk (s : Shp) : Bool := decide (s.rule = 0 ∨ s.rule = 1) && paintOk s && right (bares s.C)
def drawOk (s : Shp) : Bool := right s.Wd && right s.F && right s.T && decide (s.cap = 0 ∨ s.cap = 1) && okD s.D
def okS (s : Shp) : Bool := formOk s && lineOk s && fillOk s && drawOk s
/-- Its path at the tick t: whether it is closed, its places. -/
def shCl (s : Shp) (t : Int) : Bool := if s.form = 0 ∨ s.form = 1 ∨ s.form = 2 then true else if s.form = 3 then atcl s.P t else false
def shAt (s : Shp) (t : Int) : List Pt :=
  if s.form = 0 then rectL (atk s.W t 0) (atk s.H t 0) else if s.form = 1 then ovalL (atk s.W t 0) (atk s.H t 0)
  else if s.form = 2 then starL s.n (atk s.W t 0) (atk s.H t 0) else if s.form = 3 then atps s.P t else []
/-- What a list of keys, of paths or of numbers holds can be told by its length alone. -/
theorem Sl.len {w : World} {v : Value} {ks : List Ky} (h : Sl w v ks) : ks.length ≤ 8796093022208 ∧ ∃ ao cap, v = .slice ao ks.length cap := by
  rcases h with ⟨rfl, ao, cap, rfl⟩ | ⟨_, g, o, cap, rfl, hr⟩
  · exact ⟨by simp, ao, cap, rfl⟩
  · exact ⟨hr.few, _, cap, rfl⟩
theorem Kl.len {w : World} {v : Value} {ks : List Pk} (h : Kl w v ks) : ks.length ≤ 100 ∧ ∃ ao cap, v = .slice ao ks.length cap := by
  obtain ⟨ao, cap, rfl, hf, _⟩ := h
  exact ⟨hf, ao, cap, rfl⟩

end Go.Proofs.Ytglbfpjjnboeaaa

namespace Go.Proofs.Ytglbfpjjnboeaaa
open Go Go.RowKit
open M

theorem int0 (n : Nat) : ((n : Int) == 0) = decide (n = 0) := by by_cases h : n = 0 <;> simp [h]

set_option maxRecDepth 100000 in
set_option maxHeartbeats 4000000 in
theorem sh_form {w : World} {s : Shp} (h : ShIn w s) : Calls Try.prog 24 #[.agg (shC s)] w fun e w' => e = .returned (.bool (formOk s)) ∧ Below w.heap.size w w' := by
  obtain ⟨lW, aW, cW, eW⟩ := h.W.len
  obtain ⟨lH, aH, cH, eH⟩ := h.H.len
  obtain ⟨lP, aP, cP, eP⟩ := h.P.len
  clear h
  obtain ⟨form, n, W, vW, H, vH, P, vP, fill, rule, kind, a, b, p, q, r, C, vC, stroke, Wd, vWd, line, cap, D, vD, F, vF, T, vT⟩ := s
  simp only at eW eH eP lW lH lP
  subst eW eH eP
  obtain ⟨K, hK⟩ : ∃ K, formOk ⟨form, n, W, .slice aW W.length cW, H, .slice aH H.length cH, P, .slice aP P.length cP, fill, rule, kind, a, b, p, q, r, C, vC, stroke, Wd, vWd, line, cap, D, vD, F, vF, T, vT⟩ = K := ⟨_, rfl⟩
  have EK := Lib.hid hK
  rw [hK]
  clear hK
  go_enter Try.func24, Try.ntmps24
  go_wp2_with fail
  all_goals
    go_ret
    refine ⟨?_, (Below.refl _ _).alloc (Nat.le_refl _) _⟩
    rw [← EK.out]
    clear EK
    unfold formOk
    have zP : ((P.length : Int) == 0) = decide (P.length = 0) := int0 _
    have zW : ((W.length : Int) == 0) = decide (W.length = 0) := int0 _
    have zH : ((H.length : Int) == 0) = decide (H.length = 0) := int0 _
    first
      | (simp_all; done)
      | (simp_all; omega; done)
      | (rw [zP]; simp_all; done)
      | (rw [zH]; simp_all; done)
      | (rw [zW]; simp_all; done)

/-- A shape that a call has by value lies in a block of its own. -/
theorem ShIn.start {w W : World} {B : Nat} {s : Shp} (h : ShIn w s) (hB : w.heap.size = B) (hW : w.alloc (.cells (shC s) 37) = W) : ShIn W s ∧ Has W B (shC s) 37 ∧ Below B w W := by
  have hb : Below w.heap.size w W := by rw [← hW]; exact (Below.refl _ _).alloc (Nat.le_refl _) _
  exact ⟨h.below hb, by rw [← hW]; exact has_new hB, by rw [← hB]; exact hb⟩

set_option maxRecDepth 100000 in
set_option maxHeartbeats 4000000 in
theorem sh_outline {w : World} {s : Shp} (h : ShIn w s) : Calls Try.prog 25 #[.agg (shC s)] w fun e w' => e = .returned (.bool (lineOk s)) ∧ Below w.heap.size w w' := by
  obtain ⟨B, hB⟩ : ∃ B, w.heap.size = B := ⟨_, rfl⟩
  obtain ⟨W, hW⟩ : ∃ W, w.alloc (.cells (shC s) 37) = W := ⟨_, rfl⟩
  obtain ⟨hi, hk, hb⟩ := h.start hB hW
  have HBB := Lib.hid hB
  have HW := Lib.hid hW
  obtain ⟨x, hx⟩ : ∃ x, right s.W = x := ⟨_, rfl⟩
  obtain ⟨y, hy⟩ : ∃ x, right s.H = x := ⟨_, rfl⟩
  obtain ⟨z, hz⟩ : ∃ x, keysOk s.P = x := ⟨_, rfl⟩
  have C1 : Hid (∀ w', Below W.heap.size W w' → Calls Try.prog 44 #[s.vW] w' fun e w'' => e = .returned (.bool x) ∧ Below w'.heap.size w' w'') := Lib.hid (fun w' h' => by rw [← hx]; exact k_right (hi.below h').W)
  have C2 : Hid (∀ w', Below W.heap.size W w' → Calls Try.prog 44 #[s.vH] w' fun e w'' => e = .returned (.bool y) ∧ Below w'.heap.size w' w'') := Lib.hid (fun w' h' => by rw [← hy]; exact k_right (hi.below h').H)
  have C3 : Hid (∀ w', Below W.heap.size W w' → Calls Try.prog 45 #[s.vP] w' fun e w'' => e = .returned (.bool z) ∧ Below w'.heap.size w' w'') := Lib.hid (fun w' h' => by rw [← hz]; exact p_keysG (hi.below h').P)
  have E : lineOk s = (x && y && z) := by unfold lineOk; rw [hx, hy, hz]
  rw [E]
  clear E
  have F : ∀ w', Below W.heap.size W w' → ∀ j u, (shC s)[j]? = some u → w'.cell? ⟨B, j, none⟩ = some u := fun w' h' j u hu => (hk.below h' hk.lt).cell j u hu
  have HF := Lib.hid F
  have R0 : Hid (Below W.heap.size W W) := Lib.hid (Below.refl _ _)
  have hFin : ∀ w', Below W.heap.size W w' → Below w.heap.size w w' := fun w' h' => by rw [hB]; exact hb.trans (h'.mono (by have := hk.lt; omega))
  have FIN := Lib.hid hFin
  clear hi hk hb hW hx hy hz F h hFin
  go_enter Try.func25, Try.ntmps25
  have f2 := HF.out W R0.out 2 _ rfl
  go_wp2_with fail
  rw [HW.out]
  clear hB
  refine (C1.out _ R0.out).mono ?_
  rintro e w1 ⟨rfl, q1⟩
  have R1 := Lib.hid (R0.out.trans (q1.mono R0.out.size))
  clear q1 f2
  cases x
  · go_wp2
    go_ret
    exact ⟨rfl, FIN.out _ R1.out⟩
  have f3 := HF.out w1 R1.out 3 _ rfl
  go_wp2_with fail
  refine (C2.out _ R1.out).mono ?_
  rintro e w2 ⟨rfl, q2⟩
  have R2 := Lib.hid (R1.out.trans (q2.mono R1.out.size))
  clear q2 f3
  cases y
  · go_wp2
    go_ret
    exact ⟨rfl, FIN.out _ R2.out⟩
  have f4 := HF.out w2 R2.out 4 _ rfl
  go_wp2_with fail
  refine (C3.out _ R2.out).mono ?_
  rintro e w3 ⟨rfl, q3⟩
  have R3 := Lib.hid (R2.out.trans (q3.mono R2.out.size))
  clear q3 f4
  go_wp2
  go_ret
  exact ⟨by simp, FIN.out _ R3.out⟩

theorem sh_near (a : Int) (w : World) : Calls Try.prog 63 #[.int .i64 a] w fun e w' => e = .returned (.bool (nearN a)) ∧ Below w.heap.size w w' := by
  obtain ⟨K, hK⟩ : ∃ K, nearN a = K := ⟨_, rfl⟩
  have EK := Lib.hid hK
  rw [hK]
  clear hK
  go_enter Try.func63, Try.ntmps63
  go_wp2
  all_goals
    go_ret
    refine ⟨?_, Below.refl _ _⟩
    rw [← EK.out]
    clear EK
    unfold nearN
    first | (simp_all; done) | (simp_all; omega; done)
set_option maxRecDepth 100000 in
set_option maxHeartbeats 4000000 in
theorem sh_paint (k : Int) (a b : Cr) (p q : Pt) (r : Int) (w : World) : Calls Try.prog 46 #[.agg (paC k a b p q r)] w fun e w' => e = .returned (.bool (decide (k = 0 ∨ k = 1 ∨ k = 2) && (nearN p.x && nearN p.y && nearN q.x && nearN q.y && nearN r))) ∧ Below w.heap.size w w' := by
  obtain ⟨px, py⟩ := p
  obtain ⟨qx, qy⟩ := q
  simp only
  obtain ⟨n0, h0⟩ : ∃ x, nearN px = x := ⟨_, rfl⟩
  have N0 : Hid (∀ w, Calls Try.prog 63 #[.int .i64 px] w fun e w' => e = .returned (.bool n0) ∧ Below w.heap.size w w') := Lib.hid (fun w => by rw [← h0]; exact sh_near _ w)
  obtain ⟨n1, h1⟩ : ∃ x, nearN py = x := ⟨_, rfl⟩
  have N1 : Hid (∀ w, Calls Try.prog 63 #[.int .i64 py] w fun e w' => e = .returned (.bool n1) ∧ Below w.heap.size w w') := Lib.hid (fun w => by rw [← h1]; exact sh_near _ w)
  obtain ⟨n2, h2⟩ : ∃ x, nearN qx = x := ⟨_, rfl⟩
  have N2 : Hid (∀ w, Calls Try.prog 63 #[.int .i64 qx] w fun e w' => e = .returned (.bool n2) ∧ Below w.heap.size w w') := Lib.hid (fun w => by rw [← h2]; exact sh_near _ w)
  obtain ⟨n3, h3⟩ : ∃ x, nearN qy = x := ⟨_, rfl⟩
  have N3 : Hid (∀ w, Calls Try.prog 63 #[.int .i64 qy] w fun e w' => e = .returned (.bool n3) ∧ Below w.heap.size w w') := Lib.hid (fun w => by rw [← h3]; exact sh_near _ w)
  obtain ⟨n4, h4⟩ : ∃ x, nearN r = x := ⟨_, rfl⟩
  have N4 : Hid (∀ w, Calls Try.prog 63 #[.int .i64 r] w fun e w' => e = .returned (.bool n4) ∧ Below w.heap.size w w') := Lib.hid (fun w => by rw [← h4]; exact sh_near _ w)
  rw [h0, h1, h2, h3, h4]
  clear h0 h1 h2 h3 h4
  obtain ⟨B, hB⟩ : ∃ B, w.heap.size = B := ⟨_, rfl⟩
  by_cases hk : k = 0 ∨ k = 1 ∨ k = 2
  · rw [decide_eq_true hk]
    obtain ⟨W, hW⟩ : ∃ W, w.alloc (.cells (paC k a b ⟨px, py⟩ ⟨qx, qy⟩ r) 33) = W := ⟨_, rfl⟩
    have hkk : Has W B (paC k a b ⟨px, py⟩ ⟨qx, qy⟩ r) 33 := by rw [← hW]; exact has_new hB
    have hb : Below B w W := by rw [← hW]; exact (Below.refl _ _).alloc (by omega) _
    have HF := Lib.hid (show ∀ w', Below W.heap.size W w' → ∀ j u, (paC k a b ⟨px, py⟩ ⟨qx, qy⟩ r)[j]? = some u → w'.cell? ⟨B, j, none⟩ = some u from fun w' h' j u hu => (hkk.below h' hkk.lt).cell j u hu)
    have R0 : Hid (Below W.heap.size W W) := Lib.hid (Below.refl _ _)
    have FIN := Lib.hid (show ∀ w', Below W.heap.size W w' → Below w.heap.size w w' from fun w' h' => by rw [hB]; exact hb.trans (h'.mono (by have := hkk.lt; omega)))
    have HW := Lib.hid hW
    clear hkk hb hW
    rcases hk with rfl | rfl | rfl
    all_goals
      go_enter Try.func46, Try.ntmps46
      go_wp2_with fail
      rw [HW.out]
      clear hB
      refine (N0.out _).mono ?_
      rintro e w1 ⟨rfl, q1⟩
      have R1 := Lib.hid (R0.out.trans (q1.mono R0.out.size))
      clear q1
      cases n0
      · go_wp2
        go_ret
        exact ⟨rfl, FIN.out _ R1.out⟩
      have g10 := HF.out w1 R1.out 10 _ rfl
      go_wp2_with fail
      refine (N1.out _).mono ?_
      rintro e w2 ⟨rfl, q2⟩
      have R2 := Lib.hid (R1.out.trans (q2.mono R1.out.size))
      clear q2
      cases n1
      · go_wp2
        go_ret
        exact ⟨rfl, FIN.out _ R2.out⟩
      have g11 := HF.out w2 R2.out 11 _ rfl
      go_wp2_with fail
      refine (N2.out _).mono ?_
      rintro e w3 ⟨rfl, q3⟩
      have R3 := Lib.hid (R2.out.trans (q3.mono R2.out.size))
      clear q3
      cases n2
      · go_wp2
        go_ret
        exact ⟨rfl, FIN.out _ R3.out⟩
      have g12 := HF.out w3 R3.out 12 _ rfl
      go_wp2_with fail
      refine (N3.out _).mono ?_
      rintro e w4 ⟨rfl, q4⟩
      have R4 := Lib.hid (R3.out.trans (q4.mono R3.out.size))
      clear q4
      cases n3
      · go_wp2
        go_ret
        exact ⟨rfl, FIN.out _ R4.out⟩
      have g13 := HF.out w4 R4.out 13 _ rfl
      go_wp2_with fail
      refine (N4.out _).mono ?_
      rintro e w5 ⟨rfl, q5⟩
      have R5 := Lib.hid (R4.out.trans (q5.mono R4.out.size))
      clear q5
      go_wp2
      go_ret
      exact ⟨by simp, FIN.out _ R5.out⟩
  · rw [decide_eq_false hk]
    have h0 : (k == 0) = false := by simp; omega
    have h1 : (k == 1) = false := by simp; omega
    have h2 : (k == 2) = false := by simp; omega
    clear hB
    go_enter Try.func46, Try.ntmps46
    go_wp2
    go_ret
    exact ⟨rfl, (Below.refl _ _).alloc (Nat.le_refl _) _⟩

set_option maxRecDepth 100000 in
set_option maxHeartbeats 4000000 in
theorem sh_fill {w : World} {s : Shp} (h : ShIn w s) : Calls Try.prog 26 #[.agg (shC s)] w fun e w' => e = .returned (.bool (fillOk s)) ∧ Below w.heap.size w w' := by
  obtain ⟨B, hB⟩ : ∃ B, w.heap.size = B := ⟨_, rfl⟩
  obtain ⟨W, hW⟩ : ∃ W, w.alloc (.cells (shC s) 37) = W := ⟨_, rfl⟩
  obtain ⟨hi, hk, hb⟩ := h.start hB hW
  have HBB := Lib.hid hB
  have HW := Lib.hid hW
  obtain ⟨y, hy⟩ : ∃ x, paintOk s = x := ⟨_, rfl⟩
  obtain ⟨z, hz⟩ : ∃ x, right (bares s.C) = x := ⟨_, rfl⟩
  have C1 : Hid (∀ w', Below W.heap.size W w' → Calls Try.prog 46 #[.agg (paC s.kind s.a s.b s.p s.q s.r)] w' fun e w'' => e = .returned (.bool y) ∧ Below w'.heap.size w' w'') := Lib.hid (fun w' h' => by rw [← hy]; exact sh_paint s.kind s.a s.b s.p s.q s.r w')
  have C2 : Hid (∀ w', Below W.heap.size W w' → Calls Try.prog 47 #[s.vC] w' fun e w'' => e = .returned (.bool z) ∧ Below w'.heap.size w' w'') := Lib.hid (fun w' h' => by rw [← hz]; exact h_right (hi.below h').C)
  have E : fillOk s = (decide (s.rule = 0 ∨ s.rule = 1) && y && z) := by unfold fillOk; rw [hy, hz]
  rw [E]
  clear E
  have F : ∀ w', Below W.heap.size W w' → ∀ j u, (shC s)[j]? = some u → w'.cell? ⟨B, j, none⟩ = some u := fun w' h' j u hu => (hk.below h' hk.lt).cell j u hu
  have HF := Lib.hid F
  have R0 : Hid (Below W.heap.size W W) := Lib.hid (Below.refl _ _)
  have hFin : ∀ w', Below W.heap.size W w' → Below w.heap.size w w' := fun w' h' => by rw [hB]; exact hb.trans (h'.mono (by have := hk.lt; omega))
  have FIN := Lib.hid hFin
  clear hi hk hb hW hy hz F h hFin
  by_cases hr : s.rule = 0 ∨ s.rule = 1
  · rw [decide_eq_true hr]
    have f6 := HF.out W R0.out 6 _ rfl
    rcases hr with hr | hr
    all_goals
      go_enter Try.func26, Try.ntmps26
      have f7 := HF.out W R0.out 7 _ rfl
      have f8 := HF.out W R0.out 8 _ rfl
      have f9 := HF.out W R0.out 9 _ rfl
      have f10 := HF.out W R0.out 10 _ rfl
      have f11 := HF.out W R0.out 11 _ rfl
      have f12 := HF.out W R0.out 12 _ rfl
      have f13 := HF.out W R0.out 13 _ rfl
      have f14 := HF.out W R0.out 14 _ rfl
      have f15 := HF.out W R0.out 15 _ rfl
      have f16 := HF.out W R0.out 16 _ rfl
      have f17 := HF.out W R0.out 17 _ rfl
      have f18 := HF.out W R0.out 18 _ rfl
      have f19 := HF.out W R0.out 19 _ rfl
      have f20 := HF.out W R0.out 20 _ rfl
      go_wp2_with fail
      rw [HW.out]
      clear hB
      refine (C1.out _ R0.out).mono ?_
      rintro e w1 ⟨rfl, q1⟩
      have R1 := Lib.hid (R0.out.trans (q1.mono R0.out.size))
      clear q1 f7 f8 f9 f10 f11 f12 f13 f14 f15 f16 f17 f18 f19 f20
      cases y
      · go_wp2
        go_ret
        exact ⟨rfl, FIN.out _ R1.out⟩
      have f21 := HF.out w1 R1.out 21 _ rfl
      go_wp2_with fail
      refine (C2.out _ R1.out).mono ?_
      rintro e w2 ⟨rfl, q2⟩
      have R2 := Lib.hid (R1.out.trans (q2.mono R1.out.size))
      clear q2 f21
      go_wp2
      go_ret
      exact ⟨by simp, FIN.out _ R2.out⟩
  · rw [decide_eq_false hr]
    have f6 := HF.out W R0.out 6 _ rfl
    have h0 : (s.rule == 0) = false := by simp; omega
    have h1 : (s.rule == 1) = false := by simp; omega
    go_enter Try.func26, Try.ntmps26
    go_wp2
    go_ret
    refine ⟨rfl, ?_⟩
    rw [HW.out]
    exact FIN.out _ R0.out

set_option maxRecDepth 100000 in
set_option maxHeartbeats 4000000 in
theorem sh_line {w : World} {s : Shp} (h : ShIn w s) : Calls Try.prog 27 #[.agg (shC s)] w fun e w' => e = .returned (.bool (drawOk s)) ∧ Below w.heap.size w w' := by
  obtain ⟨B, hB⟩ : ∃ B, w.heap.size = B := ⟨_, rfl⟩
  obtain ⟨W, hW⟩ : ∃ W, w.alloc (.cells (shC s) 37) = W := ⟨_, rfl⟩
  obtain ⟨hi, hk, hb⟩ := h.start hB hW
  have HBB := Lib.hid hB
  have HW := Lib.hid hW
  obtain ⟨x1, hx1⟩ : ∃ x, right s.Wd = x := ⟨_, rfl⟩
  obtain ⟨x2, hx2⟩ : ∃ x, right s.F = x := ⟨_, rfl⟩
  obtain ⟨x3, hx3⟩ : ∃ x, right s.T = x := ⟨_, rfl⟩
  obtain ⟨x4, hx4⟩ : ∃ x, okD s.D = x := ⟨_, rfl⟩
  have C1 : Hid (∀ w', Below W.heap.size W w' → Calls Try.prog 44 #[s.vWd] w' fun e w'' => e = .returned (.bool x1) ∧ Below w'.heap.size w' w'') := Lib.hid (fun w' h' => by rw [← hx1]; exact k_right (hi.below h').Wd)
  have C2 : Hid (∀ w', Below W.heap.size W w' → Calls Try.prog 44 #[s.vF] w' fun e w'' => e = .returned (.bool x2) ∧ Below w'.heap.size w' w'') := Lib.hid (fun w' h' => by rw [← hx2]; exact k_right (hi.below h').F)
  have C3 : Hid (∀ w', Below W.heap.size W w' → Calls Try.prog 44 #[s.vT] w' fun e w'' => e = .returned (.bool x3) ∧ Below w'.heap.size w' w'') := Lib.hid (fun w' h' => by rw [← hx3]; exact k_right (hi.below h').T)
  have C4 : Hid (∀ w', Below W.heap.size W w' → Calls Try.prog 48 #[s.vD] w' fun e w'' => e = .returned (.bool x4) ∧ Below w'.heap.size w' w'') := Lib.hid (fun w' h' => by rw [← hx4]; exact below_of (d_right (hi.below h').D))
  obtain ⟨cp, hcp⟩ : ∃ x, decide (s.cap = 0 ∨ s.cap = 1) = x := ⟨_, rfl⟩
  have E : drawOk s = (x1 && x2 && x3 && cp && x4) := by unfold drawOk; rw [hx1, hx2, hx3, hx4, hcp]
  have HCP := Lib.hid hcp
  clear hcp
  rw [E]
  clear E
  have F : ∀ w', Below W.heap.size W w' → ∀ j u, (shC s)[j]? = some u → w'.cell? ⟨B, j, none⟩ = some u := fun w' h' j u hu => (hk.below h' hk.lt).cell j u hu
  have HF := Lib.hid F
  have R0 : Hid (Below W.heap.size W W) := Lib.hid (Below.refl _ _)
  have hFin : ∀ w', Below W.heap.size W w' → Below w.heap.size w w' := fun w' h' => by rw [hB]; exact hb.trans (h'.mono (by have := hk.lt; omega))
  have FIN := Lib.hid hFin
  clear hi hk hb hW hx1 hx2 hx3 hx4 F h hFin
  go_enter Try.func27, Try.ntmps27
  have f23 := HF.out W R0.out 23 _ rfl
  go_wp2_with fail
  rw [HW.out]
  clear hB
  refine (C1.out _ R0.out).mono ?_
  rintro e w1 ⟨rfl, q1⟩
  have R1 := Lib.hid (R0.out.trans (q1.mono R0.out.size))
  clear q1 f23
  cases x1
  · go_wp2
    go_ret
    exact ⟨rfl, FIN.out _ R1.out⟩
  have f30 := HF.out w1 R1.out 30 _ rfl
  go_wp2_with fail
  refine (C2.out _ R1.out).mono ?_
  rintro e w2 ⟨rfl, q2⟩
  have R2 := Lib.hid (R1.out.trans (q2.mono R1.out.size))
  clear q2 f30
  cases x2
  · go_wp2
    go_ret
    exact ⟨rfl, FIN.out _ R2.out⟩
  have f31 := HF.out w2 R2.out 31 _ rfl
  go_wp2_with fail
  refine (C3.out _ R2.out).mono ?_
  rintro e w3 ⟨rfl, q3⟩
  have R3 := Lib.hid (R2.out.trans (q3.mono R2.out.size))
  clear q3 f31
  cases x3
  · go_wp2
    go_ret
    exact ⟨rfl, FIN.out _ R3.out⟩
  have f28 := HF.out w3 R3.out 28 _ rfl
  by_cases hc : s.cap = 0 ∨ s.cap = 1
  · obtain rfl : cp = true := by rw [← HCP.out]; exact decide_eq_true hc
    rcases hc with hc | hc
    all_goals
      have f29 := HF.out w3 R3.out 29 _ rfl
      go_wp2_with fail
      refine (C4.out _ R3.out).mono ?_
      rintro e w4 ⟨rfl, q4⟩
      have R4 := Lib.hid (R3.out.trans (q4.mono R3.out.size))
      clear q4 f29
      go_wp2
      go_ret
      exact ⟨rfl, FIN.out _ R4.out⟩
  · obtain rfl : cp = false := by rw [← HCP.out]; exact decide_eq_false hc
    have h0 : (s.cap == 0) = false := by simp; omega
    have h1 : (s.cap == 1) = false := by simp; omega
    go_wp2
    go_ret
    exact ⟨rfl, FIN.out _ R3.out⟩

end Go.Proofs.Ytglbfpjjnboeaaa

namespace Go.Proofs.Ytglbfpjjnboeaaa
open Go Go.RowKit
open M

set_option maxRecDepth 100000 in
set_option maxHeartbeats 4000000 in
theorem sh_right {w : World} {s : Shp} (h : ShIn w s) : Calls Try.prog 8 #[.agg (shC s)] w fun e w' => e = .returned (.bool (okS s)) ∧ Below w.heap.size w w' := by
  obtain ⟨B, hB⟩ : ∃ B, w.heap.size = B := ⟨_, rfl⟩
  obtain ⟨W, hW⟩ : ∃ W, w.alloc (.cells (shC s) 37) = W := ⟨_, rfl⟩
  obtain ⟨hi, hk, hb⟩ := h.start hB hW
  have HBB := Lib.hid hB
  have HW := Lib.hid hW
  obtain ⟨y1, hy1⟩ : ∃ x, formOk s = x := ⟨_, rfl⟩
  obtain ⟨y2, hy2⟩ : ∃ x, lineOk s = x := ⟨_, rfl⟩
  obtain ⟨y3, hy3⟩ : ∃ x, fillOk s = x := ⟨_, rfl⟩
  obtain ⟨y4, hy4⟩ : ∃ x, drawOk s = x := ⟨_, rfl⟩
  have C1 : Hid (∀ w', Below W.heap.size W w' → Calls Try.prog 24 #[.agg (shC s)] w' fun e w'' => e = .returned (.bool y1) ∧ Below w'.heap.size w' w'') := Lib.hid (fun w' h' => by rw [← hy1]; exact sh_form (hi.below h'))
  have C2 : Hid (∀ w', Below W.heap.size W w' → Calls Try.prog 25 #[.agg (shC s)] w' fun e w'' => e = .returned (.bool y2) ∧ Below w'.heap.size w' w'') := Lib.hid (fun w' h' => by rw [← hy2]; exact sh_outline (hi.below h'))
  have C3 : Hid (∀ w', Below W.heap.size W w' → Calls Try.prog 26 #[.agg (shC s)] w' fun e w'' => e = .returned (.bool y3) ∧ Below w'.heap.size w' w'') := Lib.hid (fun w' h' => by rw [← hy3]; exact sh_fill (hi.below h'))
  have C4 : Hid (∀ w', Below W.heap.size W w' → Calls Try.prog 27 #[.agg (shC s)] w' fun e w'' => e = .returned (.bool y4) ∧ Below w'.heap.size w' w'') := Lib.hid (fun w' h' => by rw [← hy4]; exact sh_line (hi.below h'))
  have E : okS s = (y1 && y2 && y3 && y4) := by unfold okS; rw [hy1, hy2, hy3, hy4]
  rw [E]
  clear E
  have HG := Lib.hid (show ∀ w', Below W.heap.size W w' → Has w' B (shC s) 37 from fun w' h' => hk.below h' hk.lt)
  have R0 : Hid (Below W.heap.size W W) := Lib.hid (Below.refl _ _)
  have hFin : ∀ w', Below W.heap.size W w' → Below w.heap.size w w' := fun w' h' => by rw [hB]; exact hb.trans (h'.mono (by have := hk.lt; omega))
  have FIN := Lib.hid hFin
  clear hi hk hb hW hy1 hy2 hy3 hy4 h hFin
  go_enter Try.func8, Try.ntmps8
  go_upto_region 1 with fail
  rw [HW.out]
  clear hB
  have hg := HG.out W R0.out
  go_wp2_with (first | (refine wpList_load_row rfl 37 _ rfl B rfl 37 _ (0, 0) _ hg Try.underlying37 rfl (by kernel_rfl) ?_) | (refine BigFrame.wpList_want (by rfl) (fun K hK => wp_load_row 37 _ rfl B rfl 37 _ (0, 0) _ hg Try.underlying37 rfl (by kernel_rfl) (hK _ _ ?_))))
  refine (C1.out _ R0.out).mono ?_
  rintro e w1 ⟨rfl, q1⟩
  have R1 := Lib.hid (R0.out.trans (q1.mono R0.out.size))
  clear q1 hg
  cases y1
  · go_wp2
    go_ret
    exact ⟨rfl, FIN.out _ R1.out⟩
  have hg := HG.out w1 R1.out
  go_wp2_with (first | (refine wpList_load_row rfl 37 _ rfl B rfl 37 _ (0, 0) _ hg Try.underlying37 rfl (by kernel_rfl) ?_) | (refine BigFrame.wpList_want (by rfl) (fun K hK => wp_load_row 37 _ rfl B rfl 37 _ (0, 0) _ hg Try.underlying37 rfl (by kernel_rfl) (hK _ _ ?_))))
  refine (C2.out _ R1.out).mono ?_
  rintro e w2 ⟨rfl, q2⟩
  have R2 := Lib.hid (R1.out.trans (q2.mono R1.out.size))
  clear q2 hg
  cases y2
  · go_wp2
    go_ret
    exact ⟨rfl, FIN.out _ R2.out⟩
  have hg := HG.out w2 R2.out
  go_wp2_with (first | (refine wpList_load_row rfl 37 _ rfl B rfl 37 _ (0, 0) _ hg Try.underlying37 rfl (by kernel_rfl) ?_) | (refine BigFrame.wpList_want (by rfl) (fun K hK => wp_load_row 37 _ rfl B rfl 37 _ (0, 0) _ hg Try.underlying37 rfl (by kernel_rfl) (hK _ _ ?_))))
  refine (C3.out _ R2.out).mono ?_
  rintro e w3 ⟨rfl, q3⟩
  have R3 := Lib.hid (R2.out.trans (q3.mono R2.out.size))
  clear q3 hg
  cases y3
  · go_wp2
    go_ret
    exact ⟨rfl, FIN.out _ R3.out⟩
  have hg := HG.out w3 R3.out
  go_wp2_with (first | (refine wpList_load_row rfl 37 _ rfl B rfl 37 _ (0, 0) _ hg Try.underlying37 rfl (by kernel_rfl) ?_) | (refine BigFrame.wpList_want (by rfl) (fun K hK => wp_load_row 37 _ rfl B rfl 37 _ (0, 0) _ hg Try.underlying37 rfl (by kernel_rfl) (hK _ _ ?_))))
  refine (C4.out _ R3.out).mono ?_
  rintro e w4 ⟨rfl, q4⟩
  have R4 := Lib.hid (R3.out.trans (q4.mono R3.out.size))
  clear q4 hg
  go_wp2
  go_ret
  exact ⟨by simp, FIN.out _ R4.out⟩

end Go.Proofs.Ytglbfpjjnboeaaa

namespace Go.Proofs.Ytglbfpjjnboeaaa
open Go Go.RowKit
open M

theorem wp_append_pl {W : World} {base : Nat} {l : Value} {rs : List Pt} {op : Oper} {a : Act} {K : Act → World → Prop} {Q : Exit → Act → World → Prop} (s x : Operand)
    (hop : op.op = .call { callee := .builtin .append, args := #[s, x], argTypes := #[39, 39] }) (N : Nat) (hN : rs.length = N) (hs : a.eval s = l) (H o m c2 : Nat) (hx : a.eval x = .slice (some ⟨H, o, none⟩) m c2)
    (news : List Pt) (hm : news.length = m) (hm0 : 0 < m) (hf : N + m ≤ 8796093022208) (hr : Prow W H o news) (hT : Pown W base l rs) (hb : base ≤ W.heap.size)
    (h : ∀ g' cap' w', Pown w' base (.slice (some ⟨g', 0, none⟩) (N + m) cap') (rs ++ news) → W.grownBy w' l.ownBlock → (l.ownBlock = some g' ∨ W.heap.size ≤ g') → K (a.put op.dst (.slice (some ⟨g', 0, none⟩) (N + m) cap')) w') : op.wp Try.prog a W K Q := by
  obtain ⟨i0, hi, hz0, hz1, hz2⟩ := info_parts Try.infoPt
  subst hN
  refine wp_append_lies W s x 39 hop base 31 i0 _ 2 16 Try.underlying39 hi hz0 hz1 hz2 rfl (by decide) l rs.length (pls rs) hs hT ⟨H, o, none⟩ m c2 (pls news) hx (by rw [pls_length, hm]) ?_ (ones_pls news) hm0 (by unfold maxLen; omega) (by omega) hb _ rfl ?_
  · intro j u hu
    rw [Addr.add_lit]
    exact hr.at j u hu
  intro g' cap' w' hown' hg hat _
  refine h g' cap' w' ?_ hg (hat.imp id (fun e => by omega))
  unfold Pown
  rw [List.length_append, hm, pls_append]
  exact hown'
theorem wpList_append_pl {W : World} {base : Nat} {l : Value} {rs : List Pt} {ops : Array Oper} {rest : List Oper} {op : Oper} {a : Act} {Q : Exit → Act → World → Prop} (hgd : op.guard = none) (s x : Operand)
    (hop : op.op = .call { callee := .builtin .append, args := #[s, x], argTypes := #[39, 39] }) (N : Nat) (hN : rs.length = N) (hs : a.eval s = l) (H o m c2 : Nat) (hx : a.eval x = .slice (some ⟨H, o, none⟩) m c2)
    (news : List Pt) (hm : news.length = m) (hm0 : 0 < m) (hf : N + m ≤ 8796093022208) (hr : Prow W H o news) (hT : Pown W base l rs) (hb : base ≤ W.heap.size)
    (h : ∀ g' cap' w', Pown w' base (.slice (some ⟨g', 0, none⟩) (N + m) cap') (rs ++ news) → W.grownBy w' l.ownBlock → (l.ownBlock = some g' ∨ W.heap.size ≤ g') → wpList Try.prog ops Q rest (a.put op.dst (.slice (some ⟨g', 0, none⟩) (N + m) cap')) w') : wpList Try.prog ops Q (op :: rest) a W :=
  wpList_plain hgd fun _ hK => wp_append_pl s x hop N hN hs H o m c2 hx news hm hm0 hf hr hT hb fun g' cap' w' h1 h2 h3 => hK _ _ (h g' cap' w' h1 h2 h3)
theorem step_append_pl {W : World} {base : Nat} {l : Value} {rs : List Pt} {ops : Array Oper} {op : Oper} {a : Act} {K : Act → World → Prop} {Q : Exit → Act → World → Prop} {E : Prop} (hw : Region.wanted op (yielded ops a.tmps) = true) (s x : Operand)
    (hop : op.op = .call { callee := .builtin .append, args := #[s, x], argTypes := #[39, 39] }) (N : Nat) (hN : rs.length = N) (hs : a.eval s = l) (H o m c2 : Nat) (hx : a.eval x = .slice (some ⟨H, o, none⟩) m c2)
    (news : List Pt) (hm : news.length = m) (hm0 : 0 < m) (hf : N + m ≤ 8796093022208) (hr : Prow W H o news) (hT : Pown W base l rs) (hb : base ≤ W.heap.size)
    (h : ∀ g' cap' w', Pown w' base (.slice (some ⟨g', 0, none⟩) (N + m) cap') (rs ++ news) → W.grownBy w' l.ownBlock → (l.ownBlock = some g' ∨ W.heap.size ≤ g') → K (a.put op.dst (.slice (some ⟨g', 0, none⟩) (N + m) cap')) w') :
    if Region.wanted op (yielded ops a.tmps) = true then Oper.wp Try.prog op a W K Q else E := by
  rw [if_pos hw]
  exact wp_append_pl s x hop N hN hs H o m c2 hx news hm hm0 hf hr hT hb h
theorem prow_one {w : World} (p : Pt) (t : TypeId) : Prow (w.alloc (.cells (pCells p) t)) w.heap.size 0 [p] := prow_has (cs := pCells p) (by simp) (has_new rfl) rfl

end Go.Proofs.Ytglbfpjjnboeaaa

namespace Go.Proofs.Ytglbfpjjnboeaaa
open Go Go.RowKit
open M

/-- A path that grows: in block go, its list in other blocks behind r; the result's block is r. -/
structure Grp3 (w1 : World) (r go : Nat) (c : Bool) (rs : List Pt) (l : Value) (wr : World) : Prop where
  own : Pown wr (r + 1) l rs
  out : Has wr go #[.bool c, l] 41
  res : Has wr r #[.bool false, .slice none 0 0] 41
  ne : ∀ k, l.ownBlock = some k → k ≠ go
  below : Below w1.heap.size w1 wr
  lr : w1.heap.size ≤ r
  lo : r < go
section
variable {w1 W w' : World} {r go : Nat} {c : Bool} {rs qs : List Pt} {l l' : Value}
theorem Grp3.later (h : Grp3 w1 r go c rs l W) (hq : Below W.heap.size W w') : Grp3 w1 r go c rs l w' :=
  ⟨h.own.below hq (Nat.le_refl _), h.out.below hq h.out.lt, h.res.below hq h.res.lt, h.ne, h.below.trans (hq.mono h.below.size), h.lr, h.lo⟩
theorem Grp3.away (h : Grp3 w1 r go c rs l W) : l.ownBlock ≠ some go ∧ l.ownBlock ≠ some r := ⟨fun e => h.ne _ e rfl, fun e => by have := (h.own.base r e).1; omega⟩
/-- The list has grown, and is stored. -/
theorem Grp3.put {g' n cap' : Nat} (h : Grp3 w1 r go c rs l W) (ho : Pown w' (r + 1) (.slice (some ⟨g', 0, none⟩) n cap') qs) (hg : W.grownBy w' l.ownBlock) (hat : l.ownBlock = some g' ∨ W.heap.size ≤ g') : Grp3 w1 r go c qs (.slice (some ⟨g', 0, none⟩) n cap') (w'.setCell ⟨go, 1, none⟩ (.slice (some ⟨g', 0, none⟩) n cap')) := by
  have hk : Has w' go #[.bool c, l] 41 := (hg.block go h.out.lt (fun e => h.away.1 e.symm)).trans h.out
  have hr : Has w' r #[.bool false, .slice none 0 0] 41 := (hg.block r h.res.lt (fun e => h.away.2 e.symm)).trans h.res
  have hs := h.below.size
  have h1 := h.lr
  have h2 := h.lo
  have hne : ∀ k, Value.ownBlock (.slice (some ⟨g', 0, none⟩) n cap') = some k → k ≠ go := fun k hk => by
    have e : some g' = some k := hk
    simp at e
    rcases hat with ha | ha
    · rw [← e]; exact h.ne _ ha
    · have := h.out.lt; omega
  refine ⟨ho.kept (grownBy_set (World.grownBy.refl _ _) _ _) (fun k hk e => by simp at hk; exact hne k e hk.symm), ?_, has_grown hr (grownBy_set (World.grownBy.refl _ _) _ _) (by omega), hne, ?_, h1, h2⟩
  · have := has_set hk 1 (.slice (some ⟨g', 0, none⟩) n cap')
    simpa using this
  · exact (h.below.grown hg (by omega) (fun k e => by have := (h.own.base k e).1; omega)).setCell (show w1.heap.size ≤ go by omega) _
theorem Grp3.alloc (h : Grp3 w1 r go c rs l W) (o : Obj) : Grp3 w1 r go c rs l (W.alloc o) := h.later ((Below.refl _ _).alloc (Nat.le_refl _) _)
theorem Grp3.big (h : Grp3 w1 r go c rs l W) : r + 1 ≤ W.heap.size := by have := h.out.lt; have := h.lo; omega
theorem Grp3.gives (h : Grp3 w1 r go c rs l W) (hB : w1.heap.size = r) : Gives w1 c rs (.returned (.agg #[.bool c, l])) ((W.setCell ⟨r, 0, none⟩ (.bool c)).setCell ⟨r, 1, none⟩ l) := by
  have hs : W.grownBy ((W.setCell ⟨r, 0, none⟩ (.bool c)).setCell ⟨r, 1, none⟩ l) (some r) := grownBy_set (grownBy_set (World.grownBy.refl _ _) _ _) _ _
  have lr := h.lr
  refine ⟨_, rfl, ?_, ?_⟩
  · exact (h.own.kept hs (fun k hk e => by simp at hk; exact h.away.2 (by rw [e, hk]))).lower (by omega)
  · exact (h.below.setCell (by simp; omega) _).setCell (by simp; omega) _
theorem Grp3.fine (h : Grp3 w1 r go c rs l W) (hg : W.grownBy w' l.ownBlock) : w'.cell? ⟨go, 1, none⟩ = some l ∧ w'.frozen? ⟨go, 1, none⟩ = false := by
  have hk : Has w' go #[.bool c, l] 41 := (hg.block go h.out.lt (fun e => h.away.1 e.symm)).trans h.out
  exact ⟨hk.cell 1 _ rfl, has_fro hk 1⟩
end

theorem psl_row {w : World} {g o n c : Nat} {ps : List Pt} (h : Psl w (.slice (some ⟨g, o, none⟩) n c) ps) (h0 : 0 < ps.length) : Prow w g o ps := by
  obtain ⟨_, _, hv, _, hr⟩ := h
  simp at hv
  obtain ⟨rfl, _, _⟩ := hv
  obtain ⟨_, _, e, r⟩ := hr h0
  simp at e
  obtain ⟨rfl, rfl⟩ := e
  exact r

set_option maxRecDepth 100000 in
set_option maxHeartbeats 2000000 in
theorem sh_straight {v : Value} {ps : List Pt} {w : World} (h : Psl w v ps) (h0 : 0 < ps.length) (h1 : ps.length ≤ 100) : Calls Try.prog 29 #[v] w (Gives w true (straightL ps)) := by
  obtain ⟨B, hB⟩ : ∃ B, w.heap.size = B := ⟨_, rfl⟩
  obtain ⟨W, hW⟩ : ∃ W, w.alloc (.cells #[.bool false, .slice none 0 0] 41) = W := ⟨_, rfl⟩
  have hr0 : Has W B #[.bool false, .slice none 0 0] 41 := by rw [← hW]; exact has_new hB
  have hb0 : Below B w W := by rw [← hW]; exact (Below.refl _ _).alloc (by omega) _
  have hz0 : W.heap.size = B + 1 := by rw [← hW]; simp [hB]
  have HS := Lib.hid h
  have hs := h.below hb0 (by omega)
  obtain ⟨ao, cap, rfl, hf, hr⟩ := hs
  obtain ⟨g, o, rfl, r⟩ := hr h0
  obtain ⟨N, hN⟩ : ∃ N, ps.length = N := ⟨_, rfl⟩
  have HR := Lib.hid r
  have HN := Lib.hid hN
  have HB := Lib.hid hB
  have HW := Lib.hid hW
  have p0 := r.c0 0 h0
  have p1 := r.c1 0 h0
  rw [hN] at h0 h1 ⊢
  simp only [Nat.zero_mul, Nat.add_zero] at p0 p1
  obtain ⟨p, hp⟩ : ∃ p, pt ps 0 = p := ⟨_, rfl⟩
  rw [hp] at p0 p1
  obtain ⟨V, hV⟩ : ∃ V, (W.alloc (.cells (pCells p) 31)).alloc (.cells #[.bool true, .slice (some ⟨B + 1, 0, none⟩) 1 1] 41) = V := ⟨_, rfl⟩
  have G0 : Hid (Grp3 w B (B + 1 + 1) true (strN ps 0) (.slice (some ⟨B + 1, 0, none⟩) 1 1) V) := Lib.hid (by
    have ho : Pown (W.alloc (.cells (pCells p) 31)) (B + 1) (.slice (some ⟨B + 1, 0, none⟩) 1 1) [p] := by
      have := World.ownsRow_lit (e := 31) (size := 2) (base := B + 1) W (pCells p) 1 (by omega) (by unfold maxLen; omega) rfl
      rw [hz0] at this
      exact this
    show Grp3 w B (B + 1 + 1) true [pt ps 0] _ V
    rw [hp, ← hV]
    exact ⟨ho.alloc _, has_new (by simp [hz0]), (hr0.alloc _).alloc _, fun k hk e => by have e' : some (B + 1) = some k := hk; simp at e'; omega, by rw [hB]; exact (hb0.alloc (by omega) _).alloc (by simp; omega) _, by omega, by omega⟩)
  have HV := Lib.hid hV
  have HZ := Lib.hid hz0
  have o1 : (0 : Int) < N := by omega
  have o2 : (N : Int) ≤ 100 := by omega
  clear hf r hr hN hb0 hr0 hW hV h hp
  obtain ⟨px, py⟩ := p
  simp only at p0 p1
  go_enter Try.func29, Try.ntmps29
  go_upto_region 1 with fail
  rw [HW.out]
  clear hB
  go_upto_region 2 with fail
  rw [HV.out]
  clear p0 p1 hz0
  go_wp2
  go_loopw [14] (fun i wr => ∃ (n : Nat) (l : Value), n ≤ N ∧ i = .int .i64 n ∧ Grp3 w B (B + 1 + 1) true (strN ps n) l wr) (fun i _ => N - (intOf i).toNat)
  case atStart => exact ⟨0, _, by omega, rfl, G0.out⟩
  case round =>
    clear G0
    obtain ⟨n, l, hn, rfl, hG⟩ := hrel
    have GH := Lib.hid hG
    have bw := Lib.hid hG.below
    by_cases hlt : n < N
    · have o3 : (n : Int) < N := by omega
      obtain ⟨m, hm⟩ : ∃ m : Nat, (n + 1) % N = m := ⟨_, rfl⟩
      have hmN : m < N := by rw [← hm]; exact Nat.mod_lt _ h0
      have e1 : ((n : Int) + 1) % (N : Int) = (m : Int) := by rw [← hm]; rfl
      have o4 : (m : Int) < N := by omega
      have o5 : ¬ (N : Int) = 0 := by omega
      have o6 : ¬ N = 0 := by omega
      obtain ⟨V1, hV1⟩ : ∃ V1, wr.alloc (.cells (pCells (pt ps n)) 31) = V1 := ⟨_, rfl⟩
      have rr : Prow wr g o ps := psl_row (HS.out.below bw.out (Nat.le_refl _)) (by have := HN.out; omega)
      have r1 : Prow V1 g o ps := psl_row ((HS.out.below bw.out (Nat.le_refl _)).below (B := wr.heap.size) (w' := V1) (by rw [← hV1]; exact (Below.refl _ _).alloc (Nat.le_refl _) _) (Nat.le_refl _)) (by have := HN.out; omega)
      have c0 := rr.c0 n (by have := HN.out; omega)
      have c1 := rr.c1 n (by have := HN.out; omega)
      have d0 := r1.c0 m (by have := HN.out; omega)
      have d1 := r1.c1 m (by have := HN.out; omega)
      have HM := Lib.hid hm
      obtain ⟨q, hq⟩ : ∃ q, pt ps n = q := ⟨_, rfl⟩
      obtain ⟨t, ht⟩ : ∃ q, pt ps m = q := ⟨_, rfl⟩
      rw [hq] at c0 c1 hV1
      rw [ht] at d0 d1
      have HQ := Lib.hid hq
      have HT := Lib.hid ht
      obtain ⟨V2, hV2⟩ : ∃ V2, V1.alloc (.cells (pCells t) 31) = V2 := ⟨_, rfl⟩
      obtain ⟨A, hA⟩ : ∃ A, wr.heap.size = A := ⟨_, rfl⟩
      have hA1 : V1.heap.size = A + 1 := by rw [← hV1]; simp [hA]
      have kA : Has V2 A (pCells q) 31 := by rw [← hV2, ← hV1]; exact (has_new hA).alloc _
      have kB : Has V2 (A + 1) (pCells t) 31 := by rw [← hV2]; exact has_new hA1
      have b2 : Below wr.heap.size wr V2 := by rw [← hV2, ← hV1]; exact ((Below.refl _ _).alloc (Nat.le_refl _) _).alloc (by simp) _
      have G2 := Lib.hid (hG.later b2)
      have f1 := (hG.later b2).out.cell 1 _ rfl
      have a0 := kA.cell 0 _ rfl
      have a1 := kA.cell 1 _ rfl
      have b0 := kB.cell 0 _ rfl
      have b1 := kB.cell 1 _ rfl
      have HV1 := Lib.hid hV1
      have HV2 := Lib.hid hV2
      have HA1 := Lib.hid hA1
      obtain ⟨gl, cl, hl⟩ := hG.own.shape (by rw [strN_length]; omega)
      obtain ⟨LN, hLN⟩ : ∃ LN, (strN ps n).length = LN := ⟨_, rfl⟩
      rw [hLN] at hl
      subst hl
      have HLN := Lib.hid hLN
      have BN : Hid (LN + 3 ≤ 8796093022208) := Lib.hid (by rw [← hLN, strN_length]; omega)
      have ST : Hid (strN ps n ++ [q, t, t] = strN ps (n + 1)) := Lib.hid (by rw [← hq, ← ht, ← hm, ← HN.out]; rfl)
      clear hm hq ht rr r1 hG hV1 hV2 b2 kA kB hA1 hLN
      obtain ⟨qx, qy⟩ := q
      obtain ⟨tx, ty⟩ := t
      simp only at c0 c1 d0 d1 a0 a1 b0 b1
      go_upto_region 5 with fail
      rw [HV1.out]
      clear hA
      go_upto_region 6 with fail
      rw [HA1.out, HV2.out]
      clear c0 c1 d0 d1
      go_wp2_with (at_builtin; refine wpList_append_pl rfl _ _ rfl LN HLN.out rfl V2.heap.size 0 3 3 rfl [⟨qx, qy⟩, ⟨tx, ty⟩, ⟨tx, ty⟩] rfl (by decide) BN.out (prow_has (cs := #[.int .i64 qx, .int .i64 qy, .int .i64 tx, .int .i64 ty, .int .i64 tx, .int .i64 ty]) (by simp) (has_new rfl) rfl) (G2.out.alloc _).own (G2.out.alloc _).big ?_)
      intro g' cap' w4 ho hg hat
      have fi := (G2.out.alloc _).fine hg
      have f0 := fi.1
      have f2 := fi.2
      have G4 := Lib.hid ((G2.out.alloc _).put ho hg (hat.imp id (fun h => by simpa using h)))
      rw [ST.out] at G4
      clear ho hg hat fi f1 a0 a1 b0 b1
      go_wp2
      go_roundw
      case rel => exact ⟨n + 1, _, by omega, by go_num, G4.out⟩
      case measure => simp [intOf]; omega
    · obtain rfl : n = N := by omega
      have R := Lib.hid (hG.gives HB.out)
      have q0 := hG.out.cell 0 _ rfl
      have q1 := hG.out.cell 1 _ rfl
      have r0 := hG.res.cell 0 _ rfl
      have r1 := hG.res.cell 1 _ rfl
      have fz := has_fro hG.res
      have e1 : strN ps n = straightL ps := by unfold straightL; rw [HN.out]
      rw [e1] at R
      obtain ⟨ao, cp, rfl⟩ := hG.own.len
      have HL := Lib.hid (strN_length ps n)
      have o3 : (n : Int) ≤ n := by omega
      clear hG GH bw e1
      go_wp2
      refine bodyPost_ret (v := .agg #[.bool true, .slice ao (strN ps n).length cp]) (by simp [results, Try.results29, go_sem, r0, r1]) rfl ?_
      exact R.out

end Go.Proofs.Ytglbfpjjnboeaaa

namespace Go.Proofs.Ytglbfpjjnboeaaa
open Go Go.RowKit
open M

theorem sh_point (x y : Int) (w : World) : Calls Try.prog 30 #[.int .i64 x, .int .i64 y] w fun e w' => e = .returned (.agg (pCells ⟨x, y⟩)) ∧ Below w.heap.size w w' := by
  go_enter Try.func30, Try.ntmps30
  go_wp2
  refine bodyPost_ret (v := .agg (pCells ⟨x, y⟩)) (by simp [results, Try.results30, go_sem]) rfl ⟨rfl, ?_⟩
  exact (Below.refl _ _).alloc (Nat.le_refl _) _
/-- What a call has answered is a call's own answer, put into the block of its result. -/
theorem gives_tail {w w1 w2 : World} {B : Nat} {c : Bool} {ps : List Pt} {v : Value} (hB : w.heap.size = B) (hr : Has w1 B #[.bool false, .slice none 0 0] 41) (hb : Below B w w1) (ho : Pown w2 w1.heap.size v ps) (hq : Below w1.heap.size w1 w2) :
    Gives w c ps (.returned (.agg #[.bool c, v])) ((w2.setCell ⟨B, 0, none⟩ (.bool c)).setCell ⟨B, 1, none⟩ v) ∧ Has w2 B #[.bool false, .slice none 0 0] 41 := by
  have lt := hr.lt
  exact ⟨gives_put (w := w) hB (ho.lower (by omega)) (fun e => by have := (ho.base _ e).1; omega) (Nat.le_refl _) (hb.trans (hq.mono (by omega))) rfl _ _ rfl, hr.below hq hr.lt⟩

set_option maxRecDepth 100000 in
set_option maxHeartbeats 2000000 in
theorem sh_rect (x y : Int) (w : World) (wx : -9223372036854775808 ≤ x ∧ x ≤ 9223372036854775807) (wy : -9223372036854775808 ≤ y ∧ y ≤ 9223372036854775807) : Calls Try.prog 11 #[.int .i64 x, .int .i64 y] w (Gives w true (rectL x y)) := by
  obtain ⟨B, hB⟩ : ∃ B, w.heap.size = B := ⟨_, rfl⟩
  obtain ⟨W, hW⟩ : ∃ W, w.alloc (.cells #[.bool false, .slice none 0 0] 41) = W := ⟨_, rfl⟩
  have hr0 : Has W B #[.bool false, .slice none 0 0] 41 := by rw [← hW]; exact has_new hB
  have hb0 : Below B w W := by rw [← hW]; exact (Below.refl _ _).alloc (by omega) _
  have HR := Lib.hid hr0
  have HB := Lib.hid hB
  have HW := Lib.hid hW
  have HBW := Lib.hid hb0
  have SZ : Hid (B ≤ W.heap.size) := Lib.hid (Nat.le_of_lt hr0.lt)
  have ER : Hid (rectL x y = straightL [⟨-(x / 2), -(y / 2)⟩, ⟨x - x / 2, -(y / 2)⟩, ⟨x - x / 2, y - y / 2⟩, ⟨-(x / 2), y - y / 2⟩]) := Lib.hid rfl
  obtain ⟨R, hR⟩ : ∃ R, rectL x y = R := ⟨_, rfl⟩
  rw [hR] at ER ⊢
  clear hr0 hb0 hW hR
  go_enter Try.func11, Try.ntmps11
  go_wp2_with fail
  rw [HW.out]
  clear hB
  refine (sh_point _ _ _).mono ?_
  rintro e w1 ⟨rfl, q1⟩
  have Q1 := Lib.hid q1
  clear q1
  go_wp2_with fail
  refine (sh_point _ _ _).mono ?_
  rintro e w2 ⟨rfl, q2⟩
  have Q2 := Lib.hid (Q1.out.trans (q2.mono Q1.out.size))
  clear q2 Q1
  go_wp2_with fail
  refine (sh_point _ _ _).mono ?_
  rintro e w3 ⟨rfl, q3⟩
  have Q3 := Lib.hid (Q2.out.trans (q3.mono Q2.out.size))
  clear q3 Q2
  go_wp2_with fail
  refine (sh_point _ _ _).mono ?_
  rintro e w4 ⟨rfl, q4⟩
  have Q4 := Lib.hid (Q3.out.trans (q4.mono Q3.out.size))
  clear q4 Q3
  go_wp2_with fail
  obtain ⟨V, hV⟩ : ∃ V, w4.alloc (.cells #[.int .i64 (-(x / 2)), .int .i64 (-(y / 2)), .int .i64 (x - x / 2), .int .i64 (-(y / 2)), .int .i64 (x - x / 2), .int .i64 (y - y / 2), .int .i64 (-(x / 2)), .int .i64 (y - y / 2)] 31) = V := ⟨_, rfl⟩
  have PS : Psl V (.slice (some ⟨w4.heap.size, 0, none⟩) 4 4) [⟨-(x / 2), -(y / 2)⟩, ⟨x - x / 2, -(y / 2)⟩, ⟨x - x / 2, y - y / 2⟩, ⟨-(x / 2), y - y / 2⟩] := by rw [← hV]; exact psl_lit 4 4 rfl (by decide) (has_new rfl) rfl
  have QV : Below W.heap.size W V := by rw [← hV]; exact Q4.out.alloc Q4.out.size _
  have QW := Lib.hid QV
  rw [hV]
  have ST := sh_straight PS (by simp) (by simp)
  rw [← ER.out] at ST
  clear hV Q4 PS QV
  refine ST.mono ?_
  rintro e w5 ⟨v, rfl, ho, hq⟩
  obtain ⟨G, K⟩ := gives_tail (c := true) HB.out (HR.out.below QW.out HR.out.lt) (HBW.out.trans (QW.out.mono SZ.out)) ho hq
  have GG := Lib.hid G
  obtain ⟨ao, cp, rfl⟩ := ho.len
  obtain ⟨LN, hLN⟩ : ∃ n, R.length = n := ⟨_, rfl⟩
  rw [hLN] at GG ⊢
  have r0 := K.cell 0 _ rfl
  have r1 := K.cell 1 _ rfl
  have fz := has_fro K
  clear ST G K ho hq hLN
  go_wp2
  refine bodyPost_ret (v := .agg #[.bool true, .slice ao LN cp]) (by simp [results, Try.results11, go_sem, r0, r1]) rfl ?_
  exact GG.out

end Go.Proofs.Ytglbfpjjnboeaaa

namespace Go.Proofs.Ytglbfpjjnboeaaa
open Go Go.RowKit
open M

/-- A literal of places in a block of its own. -/
theorem pown_new {w : World} {B n : Nat} {cs : Array Value} {ps : List Pt} (hb : B ≤ w.heap.size) (hn : ps.length = n) (hm : n ≤ 1000) (hcs : cs.toList = pls ps) : Pown (w.alloc (.cells cs 31)) B (.slice (some ⟨w.heap.size, 0, none⟩) n n) ps := by
  subst hn
  have hsz : cs.size = ps.length * 2 := by rw [← Array.length_toList, hcs, pls_length]
  have := World.ownsRow_lit (e := 31) (size := 2) (base := B) w cs ps.length hb (by unfold maxLen; omega) hsz
  unfold Pown
  rw [← hcs]
  exact this

set_option maxRecDepth 100000 in
set_option maxHeartbeats 4000000 in
theorem sh_oval (x y : Int) (w : World) (wx : -9223372036854775808 ≤ x ∧ x ≤ 9223372036854775807) (wy : -9223372036854775808 ≤ y ∧ y ≤ 9223372036854775807) : Calls Try.prog 12 #[.int .i64 x, .int .i64 y] w (Gives w true (ovalL x y)) := by
  obtain ⟨B, hB⟩ : ∃ B, w.heap.size = B := ⟨_, rfl⟩
  obtain ⟨W, hW⟩ : ∃ W, w.alloc (.cells #[.bool false, .slice none 0 0] 41) = W := ⟨_, rfl⟩
  have hr0 : Has W B #[.bool false, .slice none 0 0] 41 := by rw [← hW]; exact has_new hB
  have hb0 : Below B w W := by rw [← hW]; exact (Below.refl _ _).alloc (by omega) _
  have HR := Lib.hid hr0
  have HB := Lib.hid hB
  have HW := Lib.hid hW
  have HBW := Lib.hid hb0
  have SZ : Hid (B ≤ W.heap.size) := Lib.hid (Nat.le_of_lt hr0.lt)
  obtain ⟨R, hR⟩ : ∃ R, ovalL x y = R := ⟨_, rfl⟩
  have ER : Hid (ovalN (x / 2) (y / 2) (mul (x / 2) 36195) (mul (y / 2) 36195) = R) := Lib.hid hR
  rw [hR]
  obtain ⟨a, ha⟩ : ∃ a, x / 2 = a := ⟨_, rfl⟩
  obtain ⟨b, hb⟩ : ∃ b, y / 2 = b := ⟨_, rfl⟩
  have a0 : -4611686018427387904 ≤ a ∧ a ≤ 4611686018427387903 := by omega
  have b0 : -4611686018427387904 ≤ b ∧ b ≤ 4611686018427387903 := by omega
  have M1 : Hid (∀ w : World, Calls Try.prog 31 #[.int .i64 a, .int .i64 36195] w fun e w' => e = .returned (.int .i64 (mul a 36195)) ∧ w = w') := Lib.hid (fun w => q_mul a 36195 w)
  have M2 : Hid (∀ w : World, Calls Try.prog 31 #[.int .i64 b, .int .i64 36195] w fun e w' => e = .returned (.int .i64 (mul b 36195)) ∧ w = w') := Lib.hid (fun w => q_mul b 36195 w)
  have k0 : -1099511627776 ≤ mul a 36195 ∧ mul a 36195 ≤ 1099511627776 := ⟨hold_lo _, hold_hi _⟩
  have l0 : -1099511627776 ≤ mul b 36195 ∧ mul b 36195 ≤ 1099511627776 := ⟨hold_lo _, hold_hi _⟩
  rw [ha, hb] at ER
  obtain ⟨k, hk⟩ : ∃ k, mul a 36195 = k := ⟨_, rfl⟩
  obtain ⟨l, hl⟩ : ∃ l, mul b 36195 = l := ⟨_, rfl⟩
  rw [hk] at M1 k0 ER
  rw [hl] at M2 l0 ER
  clear hr0 hb0 hW hR hk hl
  go_enter Try.func12, Try.ntmps12
  go_wp2_with fail
  rw [HW.out]
  clear hB
  clear ha hb wx wy
  refine (M1.out _).mono ?_
  rintro e w' ⟨rfl, rfl⟩
  go_wp2_with fail
  refine (M2.out _).mono ?_
  rintro e w' ⟨rfl, rfl⟩
  clear M1 M2
  have M2 : Hid (Below W.heap.size W W) := Lib.hid (Below.refl _ _)
  go_wp2_with fail
  refine (sh_point _ _ _).mono ?_
  rintro e w1 ⟨rfl, q1⟩
  have Q1 := Lib.hid (M2.out.trans (q1.mono M2.out.size))
  clear q1 M2
  go_wp2_with fail
  refine (sh_point _ _ _).mono ?_
  rintro e w2 ⟨rfl, q2⟩
  have Q2 := Lib.hid (Q1.out.trans (q2.mono Q1.out.size))
  clear q2 Q1
  go_wp2_with fail
  refine (sh_point _ _ _).mono ?_
  rintro e w3 ⟨rfl, q3⟩
  have Q3 := Lib.hid (Q2.out.trans (q3.mono Q2.out.size))
  clear q3 Q2
  go_wp2_with fail
  refine (sh_point _ _ _).mono ?_
  rintro e w4 ⟨rfl, q4⟩
  have Q4 := Lib.hid (Q3.out.trans (q4.mono Q3.out.size))
  clear q4 Q3
  go_wp2_with fail
  refine (sh_point _ _ _).mono ?_
  rintro e w5 ⟨rfl, q5⟩
  have Q5 := Lib.hid (Q4.out.trans (q5.mono Q4.out.size))
  clear q5 Q4
  go_wp2_with fail
  refine (sh_point _ _ _).mono ?_
  rintro e w6 ⟨rfl, q6⟩
  have Q6 := Lib.hid (Q5.out.trans (q6.mono Q5.out.size))
  clear q6 Q5
  go_wp2_with fail
  refine (sh_point _ _ _).mono ?_
  rintro e w7 ⟨rfl, q7⟩
  have Q7 := Lib.hid (Q6.out.trans (q7.mono Q6.out.size))
  clear q7 Q6
  go_wp2_with fail
  refine (sh_point _ _ _).mono ?_
  rintro e w8 ⟨rfl, q8⟩
  have Q8 := Lib.hid (Q7.out.trans (q8.mono Q7.out.size))
  clear q8 Q7
  go_wp2_with fail
  refine (sh_point _ _ _).mono ?_
  rintro e w9 ⟨rfl, q9⟩
  have Q9 := Lib.hid (Q8.out.trans (q9.mono Q8.out.size))
  clear q9 Q8
  go_wp2_with fail
  refine (sh_point _ _ _).mono ?_
  rintro e w10 ⟨rfl, q10⟩
  have Q10 := Lib.hid (Q9.out.trans (q10.mono Q9.out.size))
  clear q10 Q9
  go_wp2_with fail
  refine (sh_point _ _ _).mono ?_
  rintro e w11 ⟨rfl, q11⟩
  have Q11 := Lib.hid (Q10.out.trans (q11.mono Q10.out.size))
  clear q11 Q10
  go_wp2_with fail
  refine (sh_point _ _ _).mono ?_
  rintro e w12 ⟨rfl, q12⟩
  have Q12 := Lib.hid (Q11.out.trans (q12.mono Q11.out.size))
  clear q12 Q11
  go_wp2_with fail
  refine (sh_point _ _ _).mono ?_
  rintro e w13 ⟨rfl, q13⟩
  have Q13 := Lib.hid (Q12.out.trans (q13.mono Q12.out.size))
  clear q13 Q12
  obtain ⟨V, hV⟩ : ∃ V, w13.alloc (.cells #[.int .i64 a, .int .i64 0, .int .i64 a, .int .i64 l, .int .i64 k, .int .i64 b, .int .i64 0, .int .i64 b, .int .i64 (-k), .int .i64 b, .int .i64 (-a), .int .i64 l, .int .i64 (-a), .int .i64 0, .int .i64 (-a), .int .i64 (-l), .int .i64 (-k), .int .i64 (-b), .int .i64 0, .int .i64 (-b), .int .i64 k, .int .i64 (-b), .int .i64 a, .int .i64 (-l), .int .i64 a, .int .i64 0] 31) = V := ⟨_, rfl⟩
  have QV : Below W.heap.size W V := by rw [← hV]; exact Q13.out.alloc Q13.out.size _
  have K := HR.out.below QV HR.out.lt
  have PO : Pown V B (.slice (some ⟨w13.heap.size, 0, none⟩) 13 13) R := by rw [← hV, ← ER.out]; exact pown_new (Nat.le_trans SZ.out Q13.out.size) rfl (by decide) rfl
  have G := Lib.hid (gives_put (w := w) (r := B) (c := true) HB.out PO (fun e => by have e' : some w13.heap.size = some B := e; simp at e'; have := HR.out.lt; have := Q13.out.size; omega) (Nat.le_refl _) (HBW.out.trans (QV.mono SZ.out)) rfl (.bool true) _ rfl)
  have K13 := HR.out.below Q13.out HR.out.lt
  have r0 := fun o => (K13.alloc o).cell 0 _ rfl
  have r1 := fun o => (K13.alloc o).cell 1 _ rfl
  have fz := fun o j => has_fro (K13.alloc o) j
  rw [← hV] at G
  clear hV QV K PO Q13 K13
  go_wp2
  refine bodyPost_ret (v := .agg #[.bool true, .slice (some ⟨w13.heap.size, 0, none⟩) 13 13]) (by simp [results, Try.results12, go_sem, r0, r1]) rfl ?_
  exact G.out

end Go.Proofs.Ytglbfpjjnboeaaa

namespace Go.Proofs.Ytglbfpjjnboeaaa
open Go Go.RowKit
open M

set_option maxRecDepth 100000 in
theorem sh_around (a f : Int) (w : World) : Calls Try.prog 33 #[.int .i64 a, .int .i64 f] w fun e w' => e = .returned (.agg (pCells ⟨mul f (cos a), mul f (sin a)⟩)) ∧ Below w.heap.size w w' := by
  obtain ⟨c, hc⟩ : ∃ c, cos a = c := ⟨_, rfl⟩
  obtain ⟨d, hd⟩ : ∃ d, sin a = d := ⟨_, rfl⟩
  have TC : Hid (∀ w, Calls Try.prog 51 #[.int .i64 a] w (Drawn (.int .i64 c) w)) := Lib.hid (fun w => by have := t_cos a w; rw [hc] at this; exact this)
  have TS : Hid (∀ w, Calls Try.prog 52 #[.int .i64 a] w (Drawn (.int .i64 d) w)) := Lib.hid (fun w => by have := t_sin a w; rw [hd] at this; exact this)
  rw [hc, hd]
  clear hc hd
  go_enter Try.func33, Try.ntmps33
  obtain ⟨B, hB⟩ : ∃ B, w.heap.size = B := ⟨_, rfl⟩
  obtain ⟨W, hW⟩ : ∃ W, w.alloc (.cells #[.int .i64 0, .int .i64 0] 31) = W := ⟨_, rfl⟩
  have hr0 : Has W B #[.int .i64 0, .int .i64 0] 31 := by rw [← hW]; exact has_new hB
  have hb0 : Below B w W := by rw [← hW]; exact (Below.refl _ _).alloc (by omega) _
  have HR := Lib.hid hr0
  have HB := Lib.hid hB
  have HW := Lib.hid hW
  have HBW := Lib.hid hb0
  have SZ : Hid (B ≤ W.heap.size) := Lib.hid (Nat.le_of_lt hr0.lt)
  clear hr0 hb0 hW
  go_wp2_with fail
  rw [HW.out]
  clear hB
  refine (TC.out _).mono ?_
  rintro e w1 ⟨rfl, n1, rfl⟩
  go_wp2_with fail
  refine (q_mul _ _ _).mono ?_
  rintro e w' ⟨rfl, rfl⟩
  go_wp2_with fail
  refine (TS.out _).mono ?_
  rintro e w2 ⟨rfl, n2, rfl⟩
  go_wp2_with fail
  refine (q_mul _ _ _).mono ?_
  rintro e w' ⟨rfl, rfl⟩
  obtain ⟨V, hV⟩ : ∃ V, W.drewN (n1 + n2) = V := ⟨_, rfl⟩
  have bV : Below W.heap.size W V := by rw [← hV]; exact below_drewN (Below.refl _ _) _
  have BV := Lib.hid bV
  clear bV
  rw [hV]
  clear hV
  go_wp2_with fail
  refine (sh_point _ _ _).mono ?_
  rintro e w3 ⟨rfl, q3⟩
  have Q3 := BV.out.trans (q3.mono BV.out.size)
  have K := HR.out.below Q3 HR.out.lt
  have r0 := K.cell 0 _ rfl
  have r1 := K.cell 1 _ rfl
  have fz := has_fro K
  have QQ : Hid (Below w.heap.size w w3) := Lib.hid (by rw [HB.out]; exact HBW.out.trans (Q3.mono SZ.out))
  have HBB : Hid (w.heap.size ≤ B) := Lib.hid (by rw [HB.out]; exact Nat.le_refl _)
  clear K Q3 q3
  go_wp2
  refine bodyPost_ret (v := .agg (pCells ⟨mul f c, mul f d⟩)) (by simp [results, Try.results33, go_sem, r0, r1]) rfl ⟨rfl, ?_⟩
  exact (QQ.out.setCell HBB.out _).setCell HBB.out _

theorem angle_of {c : Int} {j : Nat} (c0 : 2 ≤ c) (c1 : c ≤ 16) (hj : j ≤ 32) : -5898240 ≤ angle c j ∧ angle c j ≤ 400000000 := by
  unfold angle
  have h0 : 0 ≤ ((j : Int) * 11796480) / c := Int.ediv_nonneg (by omega) (by omega)
  have h1 : ((j : Int) * 11796480) / c ≤ (j : Int) * 11796480 := Int.ediv_le_self _ (by omega)
  omega

set_option maxRecDepth 100000 in
set_option maxHeartbeats 2000000 in
theorem sh_star (n r s : Int) (w : World) : Calls Try.prog 13 #[.int .i64 n, .int .i64 r, .int .i64 s] w (Gives w true (starL n r s)) := by
  obtain ⟨c, hc⟩ : ∃ c, points n = c := ⟨_, rfl⟩
  have QC : Hid (∀ w, Calls Try.prog 32 #[.int .i64 n, .int .i64 2, .int .i64 16] w fun e w' => e = .returned (.int .i64 c) ∧ w = w') := Lib.hid (fun w => by have := q_clamp n 2 16 w; unfold points at hc; rw [hc] at this; exact this)
  have c2 : 2 ≤ c ∧ c ≤ 16 := by rw [← hc]; unfold points clamp; split <;> (try split) <;> omega
  obtain ⟨C, rfl⟩ : ∃ C : Nat, c = (C : Int) := ⟨c.toNat, by omega⟩
  have ES : Hid (straightL (starN C r s (2 * C)) = starL n r s) := Lib.hid (by unfold starL; rw [hc, Int.toNat_natCast])
  obtain ⟨R, hR⟩ : ∃ R, starL n r s = R := ⟨_, rfl⟩
  rw [hR] at ES ⊢
  obtain ⟨B, hB⟩ : ∃ B, w.heap.size = B := ⟨_, rfl⟩
  obtain ⟨W, hW⟩ : ∃ W, w.alloc (.cells #[.bool false, .slice none 0 0] 41) = W := ⟨_, rfl⟩
  have hr0 : Has W B #[.bool false, .slice none 0 0] 41 := by rw [← hW]; exact has_new hB
  have hb0 : Below B w W := by rw [← hW]; exact (Below.refl _ _).alloc (by omega) _
  have HR := Lib.hid hr0
  have HB := Lib.hid hB
  have HW := Lib.hid hW
  have HBW := Lib.hid hb0
  have SZ : Hid (B ≤ W.heap.size) := Lib.hid (Nat.le_of_lt hr0.lt)
  have o1 : (2 : Int) ≤ C := c2.1
  have o2 : (C : Int) ≤ 16 := c2.2
  have o3 : ¬ (C : Int) = 0 := by omega
  have o4 : ¬ C = 0 := by omega
  have o5 : wrap64 (2 * (C : Int)) = 2 * (C : Int) := by unfold wrap64; omega
  clear hr0 hb0 hW hR hc c2
  go_enter Try.func13, Try.ntmps13
  go_wp2_with fail
  rw [HW.out]
  clear hB
  refine (QC.out _).mono ?_
  rintro e w' ⟨rfl, rfl⟩
  go_wp2_with fail
  go_loopw [8, 15] (fun lv i wr => ∃ (m : Nat), m ≤ 2 * C ∧ i = .int .i64 m ∧ Pown wr W.heap.size lv (starN C r s m) ∧ Below W.heap.size W wr) (fun _ i _ => 2 * C - (intOf i).toNat)
  case atStart => exact ⟨0, by omega, rfl, Pown.nil _ _, Below.refl _ _⟩
  case round =>
    obtain ⟨m, hm, rfl, ho, hb⟩ := hrel
    by_cases hlt : m < 2 * C
    · obtain ⟨A, hA, A0, A1⟩ : ∃ A, angle C m = A ∧ -5898240 ≤ A ∧ A ≤ 400000000 := ⟨_, rfl, angle_of o1 o2 (by omega)⟩
      have HA : Hid ((m : Int) * 11796480 / C - 5898240 = A) := Lib.hid hA
      have oA : (m : Int) * 11796480 / C = A + 5898240 := by have := HA.out; omega
      have o6 : (m : Int) < 2 * C := by omega
      have o7 : (m : Int) ≤ 32 := by omega
      have o8 : 0 ≤ (m : Int) * 11796480 := by omega
      have HO := Lib.hid ho
      have HQ := Lib.hid hb
      have NX := Lib.hid (starN_snoc C r s m)
      obtain ⟨p, hp⟩ : ∃ p, starP C r s m = p := ⟨_, rfl⟩
      rw [hp] at NX
      obtain ⟨f, hf⟩ : ∃ f, (if m % 2 = 1 then s else r) = f := ⟨_, rfl⟩
      have EP : Hid (p = ⟨mul f (cos A), mul f (sin A)⟩) := Lib.hid (by rw [← hp]; unfold starP; rw [hf, hA])
      obtain ⟨rs, hrs⟩ : ∃ rs, starN C r s m = rs := ⟨_, rfl⟩
      have HN : Hid (rs.length = m) := Lib.hid (by rw [← hrs, starN_length])
      rw [hrs] at HO NX
      have FF : Hid (∀ w, Calls Try.prog 33 #[.int .i64 A, .int .i64 f] w fun e w' => e = .returned (.agg (pCells p)) ∧ Below w.heap.size w w') := Lib.hid (fun w => by rw [EP.out]; exact sh_around A f w)
      obtain ⟨aol, capl, el⟩ := ho.len
      rw [hrs, HN.out] at el
      clear hA hp hrs ho hb
      subst el
      rcases (show m % 2 = 0 ∨ m % 2 = 1 by omega) with hm2 | hm2
      all_goals
        first | rw [if_neg (by omega)] at hf | rw [if_pos hm2] at hf
        subst hf
        have om : (m : Int) % 2 = ((m % 2 : Nat) : Int) := by omega
        rw [hm2] at om
        clear hm2
        go_wp2_with fail
        refine (FF.out _).mono ?_
        rintro e w3 ⟨rfl, q3⟩
        have Q3 := Lib.hid (HQ.out.trans (q3.mono HQ.out.size))
        have O3 := Lib.hid (HO.out.below q3 (Nat.le_refl _))
        clear q3
        go_wp2_with (at_builtin; refine wpList_append_pl rfl _ _ rfl m HN.out rfl w3.heap.size 0 1 1 rfl [p] rfl (by decide) (by omega) (prow_one _ _) (O3.out.alloc _) (Nat.le_trans Q3.out.size (by simp)) ?_)
        intro g' cap' w4 ho4 hg4 _
        have B4 : Below W.heap.size W w4 := ((Q3.out.alloc Q3.out.size _).grown hg4 (by have := Q3.out.size; simp; omega) (fun k hk => (O3.out.base k hk).1))
        have HB4 := Lib.hid B4
        rw [← NX.out] at ho4
        have HO4 := Lib.hid ho4
        clear ho4 hg4 B4
        go_wp2
        go_roundw
        case rel => exact ⟨m + 1, by omega, by go_num, HO4.out, HB4.out⟩
        case measure => simp [intOf]; omega
    · obtain rfl : m = 2 * C := by omega
      have o6 : ((2 * C : Nat) : Int) = 2 * (C : Int) := by omega
      have HL : Hid ((starN C r s (2 * C)).length = 2 * C) := Lib.hid (starN_length _ _ _ _)
      have ST := sh_straight (ho.sl (by rw [HL.out]; omega)) (by rw [HL.out]; omega) (by rw [HL.out]; omega)
      rw [ES.out] at ST
      have HS := Lib.hid ST
      have HQ := Lib.hid hb
      obtain ⟨aol, capl, rfl⟩ := ho.len
      clear ho hb ST
      go_wp2_with fail
      refine HS.out.mono ?_
      rintro e w5 ⟨v, rfl, ho, hq⟩
      obtain ⟨G, K⟩ := gives_tail (c := true) HB.out (HR.out.below HQ.out HR.out.lt) (HBW.out.trans (HQ.out.mono SZ.out)) ho hq
      have GG := Lib.hid G
      obtain ⟨ao, cp, rfl⟩ := ho.len
      obtain ⟨LN, hLN⟩ : ∃ n, R.length = n := ⟨_, rfl⟩
      rw [hLN] at GG ⊢
      have r0 := K.cell 0 _ rfl
      have r1 := K.cell 1 _ rfl
      have fz := has_fro K
      clear G K ho hq hLN
      go_wp2
      refine bodyPost_ret (v := .agg #[.bool true, .slice ao LN cp]) (by simp [results, Try.results13, go_sem, r0, r1]) rfl ?_
      exact GG.out

end Go.Proofs.Ytglbfpjjnboeaaa

namespace Go.Proofs.Ytglbfpjjnboeaaa
open Go Go.RowKit
open M

set_option maxRecDepth 100000 in
set_option maxHeartbeats 4000000 in
theorem sh_at {w : World} {s : Shp} (h : ShIn w s) (t : Int) (bW : -9223372036854775808 ≤ atk s.W t 0 ∧ atk s.W t 0 ≤ 9223372036854775807) (bH : -9223372036854775808 ≤ atk s.H t 0 ∧ atk s.H t 0 ≤ 9223372036854775807) :
    Calls Try.prog 7 #[.agg (shC s), .int .i64 t] w (Gives w (shCl s t) (shAt s t)) := by
  obtain ⟨B, hB⟩ : ∃ B, w.heap.size = B := ⟨_, rfl⟩
  obtain ⟨W0, hW0⟩ : ∃ W, w.alloc (.cells (shC s) 37) = W := ⟨_, rfl⟩
  obtain ⟨hi0, hk0, hb0⟩ := h.start hB hW0
  obtain ⟨W, hW⟩ : ∃ W, W0.alloc (.cells #[.bool false, .slice none 0 0] 41) = W := ⟨_, rfl⟩
  have hz0 : W0.heap.size = B + 1 := by rw [← hW0]; simp [hB]
  have hbW : Below W0.heap.size W0 W := by rw [← hW]; exact (Below.refl _ _).alloc (Nat.le_refl _) _
  have hi := hi0.below hbW
  have hk := hk0.below hbW hk0.lt
  have hr : Has W (B + 1) #[.bool false, .slice none 0 0] 41 := by rw [← hW]; exact has_new hz0
  have hb : Below B w W := hb0.trans (hbW.mono (by omega))
  obtain ⟨vw, hvw⟩ : ∃ v, s.vW = v := ⟨_, rfl⟩
  obtain ⟨vh, hvh⟩ : ∃ v, s.vH = v := ⟨_, rfl⟩
  have HVW := Lib.hid hvw
  have HVH := Lib.hid hvh
  clear hvw hvh
  obtain ⟨x, hx⟩ : ∃ x, atk s.W t 0 = x := ⟨_, rfl⟩
  obtain ⟨y, hy⟩ : ∃ x, atk s.H t 0 = x := ⟨_, rfl⟩
  have C1 : Hid (∀ w', Below W.heap.size W w' → Calls Try.prog 22 #[vw, .int .i64 t, .int .i64 0] w' fun e w'' => e = .returned (.int .i64 x) ∧ Below w'.heap.size w' w'') := Lib.hid (fun w' h' => by rw [← hx, ← HVW.out]; exact k_at (hi.below h').W t 0)
  have C2 : Hid (∀ w', Below W.heap.size W w' → Calls Try.prog 22 #[vh, .int .i64 t, .int .i64 0] w' fun e w'' => e = .returned (.int .i64 y) ∧ Below w'.heap.size w' w'') := Lib.hid (fun w' h' => by rw [← hy, ← HVH.out]; exact k_at (hi.below h').H t 0)
  have C3 : Hid (∀ w', Below W.heap.size W w' → Calls Try.prog 23 #[s.vP, .int .i64 t] w' (Gives w' (atcl s.P t) (atps s.P t))) := Lib.hid (fun w' h' => p_at (hi.below h').P t)
  have A0 : Hid (s.form = 0 → shAt s t = rectL x y ∧ shCl s t = true) := Lib.hid (fun e => by unfold shAt shCl; rw [hx, hy, e]; exact ⟨rfl, rfl⟩)
  have A1 : Hid (s.form = 1 → shAt s t = ovalL x y ∧ shCl s t = true) := Lib.hid (fun e => by unfold shAt shCl; rw [hx, hy, e]; exact ⟨rfl, rfl⟩)
  have A2 : Hid (s.form = 2 → shAt s t = starL s.n x y ∧ shCl s t = true) := Lib.hid (fun e => by unfold shAt shCl; rw [hx, hy, e]; exact ⟨rfl, rfl⟩)
  have A3 : Hid (s.form = 3 → shAt s t = atps s.P t ∧ shCl s t = atcl s.P t) := Lib.hid (fun e => by unfold shAt shCl; rw [e]; exact ⟨rfl, rfl⟩)
  have A4 : Hid (¬ s.form = 0 → ¬ s.form = 1 → ¬ s.form = 2 → ¬ s.form = 3 → shAt s t = [] ∧ shCl s t = false) := Lib.hid (fun a b c d => by unfold shAt shCl; rw [if_neg a, if_neg b, if_neg c, if_neg d, if_neg (by omega), if_neg d]; exact ⟨rfl, rfl⟩)
  rw [hx] at bW
  rw [hy] at bH
  have BW := Lib.hid bW
  have BH := Lib.hid bH
  have HBB := Lib.hid hB
  have HW0 := Lib.hid hW0
  have HW := Lib.hid hW
  have HR := Lib.hid hr
  have HBW := Lib.hid hb
  have R0 : Hid (Below W.heap.size W W) := Lib.hid (Below.refl _ _)
  have SZ : Hid (B ≤ W.heap.size) := Lib.hid (by have := hr.lt; omega)
  have HF := Lib.hid (show ∀ w', Below W.heap.size W w' → ∀ j u, (shC s)[j]? = some u → w'.cell? ⟨B, j, none⟩ = some u from fun w' h' j u hu => (hk.below h' hk.lt).cell j u hu)
  obtain ⟨R, hR⟩ : ∃ R, shAt s t = R := ⟨_, rfl⟩
  obtain ⟨c, hc⟩ : ∃ c, shCl s t = c := ⟨_, rfl⟩
  rw [hR, hc] at A0 A1 A2 A3 A4
  rw [hR, hc]
  clear hi0 hk0 hb0 hW0 hW hbW hi hk hr hb hx hy hR hc h bW bH
  by_cases e0 : s.form = 0
  · obtain ⟨er, ec⟩ := A0.out e0
    rw [er, ec]
    clear A0 A1 A2 A3 A4 er ec
    go_enter Try.func7, Try.ntmps7
    go_upto_region 1 with fail
    rw [HW0.out, HW.out]
    clear hB
    have f0 := HF.out W R0.out 0 _ rfl
    go_upto_region 3 with fail
    refine wp_region_make0 8 (by kernel_rfl) (by kernel_rfl) (by kernel_rfl) ?_
    apply Exists.intro
    refine ⟨fun R hR hN => ?_, ?_⟩
    · have A2 : ∀ z : LaterR W R, z.to.cell? ⟨B, 2, none⟩ = some vw := fun z => by rw [← HVW.out]; exact HF.out z.to z.below 2 _ rfl
      have A3 : ∀ z : LaterR W R, z.to.cell? ⟨B, 3, none⟩ = some vh := fun z => by rw [← HVH.out]; exact HF.out z.to z.below 3 _ rfl
      have DD1 := Lib.hid (fun (z : LaterR W R) => C1.out z.to z.below)
      have DD2 := Lib.hid (fun (z : LaterR W R) => C2.out z.to z.below)
      simp only [List.take_succ_cons, List.take_zero]
      repeat (go_big_quiet_step (first | (go_at_call_of 22 vw; exact LaterR.calls hR (DD1.out _)) | (go_at_call_of 22 vh; exact LaterR.calls hR (DD2.out _))))
      exact wpQuiet_nil rfl
    intro w2 hb2
    simp only [List.drop_succ_cons, List.drop_zero]
    have R2 := Lib.hid hb2
    clear hb2
    go_wp2_with fail
    refine (sh_rect x y _ BW.out BH.out).mono ?_
    rintro e w9 ⟨v, rfl, ho, hq⟩
    have GG := Lib.hid (gives_put (w := w) (r := B + 1) (c := true) HBB.out (ho.lower (B' := B) (by have := SZ.out; have := R2.out.size; omega)) (fun e => by have := (ho.base _ e).1; have := HR.out.lt; have := R2.out.size; omega) (by omega) (HBW.out.trans ((R2.out.trans (hq.mono R2.out.size)).mono SZ.out)) rfl (.bool true) _ rfl)
    have K := HR.out.below (R2.out.trans (hq.mono R2.out.size)) HR.out.lt
    obtain ⟨ao, cp, rfl⟩ := ho.len
    obtain ⟨LN, hLN⟩ : ∃ n, (rectL x y).length = n := ⟨_, rfl⟩
    rw [hLN] at GG ⊢
    have r0 := K.cell 0 _ rfl
    have r1 := K.cell 1 _ rfl
    have fz := has_fro K
    clear K ho hq hLN
    go_wp2
    refine bodyPost_ret (v := .agg #[.bool true, .slice ao LN cp]) (by simp [results, Try.results7, go_sem, r0, r1]) rfl ?_
    exact GG.out
  by_cases e1 : s.form = 1
  · obtain ⟨er, ec⟩ := A1.out e1
    rw [er, ec]
    clear A0 A1 A2 A3 A4 er ec
    go_enter Try.func7, Try.ntmps7
    go_upto_region 1 with fail
    rw [HW0.out, HW.out]
    clear hB
    have f0 := HF.out W R0.out 0 _ rfl
    go_upto_region 5 with fail
    refine wp_region_make0 8 (by kernel_rfl) (by kernel_rfl) (by kernel_rfl) ?_
    apply Exists.intro
    refine ⟨fun R hR hN => ?_, ?_⟩
    · have A2 : ∀ z : LaterR W R, z.to.cell? ⟨B, 2, none⟩ = some vw := fun z => by rw [← HVW.out]; exact HF.out z.to z.below 2 _ rfl
      have A3 : ∀ z : LaterR W R, z.to.cell? ⟨B, 3, none⟩ = some vh := fun z => by rw [← HVH.out]; exact HF.out z.to z.below 3 _ rfl
      have DD1 := Lib.hid (fun (z : LaterR W R) => C1.out z.to z.below)
      have DD2 := Lib.hid (fun (z : LaterR W R) => C2.out z.to z.below)
      simp only [List.take_succ_cons, List.take_zero]
      repeat (go_big_quiet_step (first | (go_at_call_of 22 vw; exact LaterR.calls hR (DD1.out _)) | (go_at_call_of 22 vh; exact LaterR.calls hR (DD2.out _))))
      exact wpQuiet_nil rfl
    intro w2 hb2
    simp only [List.drop_succ_cons, List.drop_zero]
    have R2 := Lib.hid hb2
    clear hb2
    go_wp2_with fail
    refine (sh_oval x y _ BW.out BH.out).mono ?_
    rintro e w9 ⟨v, rfl, ho, hq⟩
    have GG := Lib.hid (gives_put (w := w) (r := B + 1) (c := true) HBB.out (ho.lower (B' := B) (by have := SZ.out; have := R2.out.size; omega)) (fun e => by have := (ho.base _ e).1; have := HR.out.lt; have := R2.out.size; omega) (by omega) (HBW.out.trans ((R2.out.trans (hq.mono R2.out.size)).mono SZ.out)) rfl (.bool true) _ rfl)
    have K := HR.out.below (R2.out.trans (hq.mono R2.out.size)) HR.out.lt
    obtain ⟨ao, cp, rfl⟩ := ho.len
    obtain ⟨LN, hLN⟩ : ∃ n, (ovalL x y).length = n := ⟨_, rfl⟩
    rw [hLN] at GG ⊢
    have r0 := K.cell 0 _ rfl
    have r1 := K.cell 1 _ rfl
    have fz := has_fro K
    clear K ho hq hLN
    go_wp2
    refine bodyPost_ret (v := .agg #[.bool true, .slice ao LN cp]) (by simp [results, Try.results7, go_sem, r0, r1]) rfl ?_
    exact GG.out
  by_cases e2 : s.form = 2
  · obtain ⟨er, ec⟩ := A2.out e2
    rw [er, ec]
    clear A0 A1 A2 A3 A4 er ec
    go_enter Try.func7, Try.ntmps7
    go_upto_region 1 with fail
    rw [HW0.out, HW.out]
    clear hB
    have f0 := HF.out W R0.out 0 _ rfl
    go_upto_region 7 with fail
    refine wp_region_make0 10 (by kernel_rfl) (by kernel_rfl) (by kernel_rfl) ?_
    apply Exists.intro
    refine ⟨fun R hR hN => ?_, ?_⟩
    · have A2 : ∀ z : LaterR W R, z.to.cell? ⟨B, 2, none⟩ = some vw := fun z => by rw [← HVW.out]; exact HF.out z.to z.below 2 _ rfl
      have A3 : ∀ z : LaterR W R, z.to.cell? ⟨B, 3, none⟩ = some vh := fun z => by rw [← HVH.out]; exact HF.out z.to z.below 3 _ rfl
      have A1 := fun (z : LaterR W R) => HF.out z.to z.below 1 _ rfl
      have DD1 := Lib.hid (fun (z : LaterR W R) => C1.out z.to z.below)
      have DD2 := Lib.hid (fun (z : LaterR W R) => C2.out z.to z.below)
      simp only [List.take_succ_cons, List.take_zero]
      repeat (go_big_quiet_step (first | (go_at_call_of 22 vw; exact LaterR.calls hR (DD1.out _)) | (go_at_call_of 22 vh; exact LaterR.calls hR (DD2.out _))))
      exact wpQuiet_nil rfl
    intro w2 hb2
    simp only [List.drop_succ_cons, List.drop_zero]
    have R2 := Lib.hid hb2
    clear hb2
    go_wp2_with fail
    refine (sh_star s.n x y _).mono ?_
    rintro e w9 ⟨v, rfl, ho, hq⟩
    have GG := Lib.hid (gives_put (w := w) (r := B + 1) (c := true) HBB.out (ho.lower (B' := B) (by have := SZ.out; have := R2.out.size; omega)) (fun e => by have := (ho.base _ e).1; have := HR.out.lt; have := R2.out.size; omega) (by omega) (HBW.out.trans ((R2.out.trans (hq.mono R2.out.size)).mono SZ.out)) rfl (.bool true) _ rfl)
    have K := HR.out.below (R2.out.trans (hq.mono R2.out.size)) HR.out.lt
    obtain ⟨ao, cp, rfl⟩ := ho.len
    obtain ⟨LN, hLN⟩ : ∃ n, (starL s.n x y).length = n := ⟨_, rfl⟩
    rw [hLN] at GG ⊢
    have r0 := K.cell 0 _ rfl
    have r1 := K.cell 1 _ rfl
    have fz := has_fro K
    clear K ho hq hLN
    go_wp2
    refine bodyPost_ret (v := .agg #[.bool true, .slice ao LN cp]) (by simp [results, Try.results7, go_sem, r0, r1]) rfl ?_
    exact GG.out
  by_cases e3 : s.form = 3
  · obtain ⟨er, ec⟩ := A3.out e3
    rw [er, ec]
    clear A0 A1 A2 A3 A4 er ec
    go_enter Try.func7, Try.ntmps7
    go_upto_region 1 with fail
    rw [HW0.out, HW.out]
    clear hB
    have f0 := HF.out W R0.out 0 _ rfl
    have f4 := HF.out W R0.out 4 _ rfl
    go_wp2_with fail
    refine (C3.out _ R0.out).mono ?_
    rintro e w9 ⟨v, rfl, ho, hq⟩
    have GG := Lib.hid (gives_put (w := w) (r := B + 1) (c := (atcl s.P t)) HBB.out (ho.lower (B' := B) (by have := SZ.out; have := R0.out.size; omega)) (fun e => by have := (ho.base _ e).1; have := HR.out.lt; have := R0.out.size; omega) (by omega) (HBW.out.trans ((R0.out.trans (hq.mono R0.out.size)).mono SZ.out)) rfl (.bool (atcl s.P t)) _ rfl)
    have K := HR.out.below (R0.out.trans (hq.mono R0.out.size)) HR.out.lt
    obtain ⟨ao, cp, rfl⟩ := ho.len
    obtain ⟨LN, hLN⟩ : ∃ n, (atps s.P t).length = n := ⟨_, rfl⟩
    rw [hLN] at GG ⊢
    have r0 := K.cell 0 _ rfl
    have r1 := K.cell 1 _ rfl
    have fz := has_fro K
    clear K ho hq hLN
    go_wp2
    refine bodyPost_ret (v := .agg #[.bool (atcl s.P t), .slice ao LN cp]) (by simp [results, Try.results7, go_sem, r0, r1]) rfl ?_
    exact GG.out
  obtain ⟨er, ec⟩ := A4.out e0 e1 e2 e3
  rw [er, ec]
  clear A0 A1 A2 A3 A4 er ec
  have n0 : (s.form == 0) = false := by simp; omega
  have n1 : (s.form == 1) = false := by simp; omega
  have n2 : (s.form == 2) = false := by simp; omega
  have n3 : (s.form == 3) = false := by simp; omega
  go_enter Try.func7, Try.ntmps7
  go_upto_region 1 with fail
  rw [HW0.out, HW.out]
  clear hB
  have f0 := HF.out W R0.out 0 _ rfl
  have K := HR.out.below R0.out HR.out.lt
  have G := Lib.hid (gives_put (w := w) (r := B + 1) (c := false) HBB.out (Pown.nil W B) (by simp [Value.ownBlock]) (by omega) (HBW.out.trans (R0.out.mono SZ.out)) rfl (.bool false) _ rfl)
  have r0 := K.cell 0 _ rfl
  have r1 := K.cell 1 _ rfl
  have fz := has_fro K
  clear K
  go_wp2
  refine bodyPost_ret (v := .agg #[.bool false, .slice none 0 0]) (by simp [results, Try.results7, go_sem, r0, r1]) rfl ?_
  exact G.out

end Go.Proofs.Ytglbfpjjnboeaaa

namespace Go.Proofs.Ytglbfpjjnboeaaa
open Go Go.RowKit
open M

def sh0 (f : Int) : Shp := ⟨f, 0, [], .slice none 0 0, [], .slice none 0 0, [], .slice none 0 0, false, 0, 0, ⟨0, 0, 0, 0⟩, ⟨0, 0, 0, 0⟩, ⟨0, 0⟩, ⟨0, 0⟩, 0, [], .slice none 0 0, false, [], .slice none 0 0, ⟨0, 0, 0, 0⟩, 0, [], .slice none 0 0, [], .slice none 0 0, [], .slice none 0 0⟩
theorem sh0_in (f : Int) (w : World) : ShIn w (sh0 f) :=
  ⟨Or.inl ⟨rfl, _, _, rfl⟩, Or.inl ⟨rfl, _, _, rfl⟩, ⟨none, 0, rfl, by simp [sh0], fun h => by simp [sh0] at h⟩, Or.inl ⟨rfl, _, _, rfl⟩, Or.inl ⟨rfl, _, _, rfl⟩, ⟨none, 0, rfl, by simp [sh0], fun h => by simp [sh0] at h⟩, Or.inl ⟨rfl, _, _, rfl⟩, Or.inl ⟨rfl, _, _, rfl⟩⟩
theorem sh0_ok : okS (sh0 0) = true := by decide
theorem sh4_ok : okS (sh0 4) = false := by decide
theorem star99 : (starL 99 5 6).length = 97 := by unfold starL; rw [straightL_length, starN_length]; rfl
theorem oval_length (w h : Int) : (ovalL w h).length = 13 := rfl
theorem rect_length (w h : Int) : (rectL w h).length = 13 := by unfold rectL; rw [straightL_length]; rfl
theorem rect_first : pt (rectL 131072 131072) 0 = ⟨-65536, -65536⟩ := by decide

set_option maxRecDepth 100000 in
set_option maxHeartbeats 4000000 in
theorem known13 (w : World) : Calls Try.prog 10 #[] w fun e w' => e = .returned (.bool true) ∧ Below w.heap.size w w' := by
  go_enter Try.func10, Try.ntmps10
  go_wp2_with fail
  refine (sh_rect 131072 131072 w ⟨by decide, by decide⟩ ⟨by decide, by decide⟩).mono ?_
  rintro e w1 ⟨v, rfl, ho, hq⟩
  obtain ⟨g, cap, rfl⟩ := ho.shape (by rw [rect_length]; decide)
  rw [rect_length]
  have row := (ho.sl (by rw [rect_length]; decide))
  obtain ⟨V, hV⟩ : ∃ V, w1.alloc (.cells #[.bool true, .slice (some ⟨g, 0, none⟩) 13 cap] 41) = V := ⟨_, rfl⟩
  have bV : Below w1.heap.size w1 V := by rw [← hV]; exact (Below.refl _ _).alloc (Nat.le_refl _) _
  have kV : Has V w1.heap.size #[.bool true, .slice (some ⟨g, 0, none⟩) 13 cap] 41 := by rw [← hV]; exact has_new rfl
  rw [rect_length] at row
  have rV := psl_row (row.below bV (Nat.le_refl _)) (by rw [rect_length]; decide)
  have p0 := rV.c0 0 (by rw [rect_length]; decide)
  have p1 := rV.c1 0 (by rw [rect_length]; decide)
  rw [rect_first] at p0 p1
  simp only [Nat.zero_mul, Nat.add_zero] at p0 p1
  obtain ⟨B, hB⟩ : ∃ B, w1.heap.size = B := ⟨_, rfl⟩
  rw [hB] at kV
  have a0 := kV.cell 0 _ rfl
  have a1 := kV.cell 1 _ rfl
  have QV := Lib.hid (hq.trans (bV.mono hq.size))
  have HV := Lib.hid hV
  clear ho hq row bV kV rV hV
  go_upto_region 2 with fail
  rw [HV.out]
  go_wp2_with fail
  refine (sh_star 99 5 6 _).mono ?_
  rintro e w2 ⟨v2, rfl, ho2, hq2⟩
  obtain ⟨ao, cp, rfl⟩ := ho2.len
  rw [star99]
  have fd : ∀ w, (Instr.field 41 (.agg #[.bool true, .slice ao 97 cp]) 1).run Try.prog w = .ok (.slice ao 97 cp) w := fun _ => by kernel_rfl
  have Q2 := Lib.hid (QV.out.trans (hq2.mono QV.out.size))
  clear ho2 hq2 p0 p1 a0 a1 QV hB HV
  go_wp2_with fail
  refine (sh_oval 1 1 _ ⟨by decide, by decide⟩ ⟨by decide, by decide⟩).mono ?_
  rintro e w3 ⟨v3, rfl, ho3, hq3⟩
  obtain ⟨ao3, cp3, rfl⟩ := ho3.len
  rw [oval_length]
  have fd3 : ∀ w, (Instr.field 41 (.agg #[.bool true, .slice ao3 13 cp3]) 1).run Try.prog w = .ok (.slice ao3 13 cp3) w := fun _ => by kernel_rfl
  have Q3 := Lib.hid (Q2.out.trans (hq3.mono Q2.out.size))
  clear ho3 hq3 Q2 fd
  go_wp2_with fail
  refine (sh_right (sh0_in 0 _)).mono ?_
  rw [sh0_ok]
  rintro e w4 ⟨rfl, hq4⟩
  have Q4 := Lib.hid (Q3.out.trans (hq4.mono Q3.out.size))
  clear hq4 Q3 fd3
  go_wp2_with fail
  refine (sh_right (sh0_in 4 _)).mono ?_
  rw [sh4_ok]
  rintro e w5 ⟨rfl, hq5⟩
  have Q5 := Lib.hid (Q4.out.trans (hq5.mono Q4.out.size))
  clear hq5 Q4
  go_wp2
  go_ret
  exact ⟨rfl, Q5.out⟩

end Go.Proofs.Ytglbfpjjnboeaaa

namespace Go.Proofs.Ytglbfpjjnboeaaa
open Go

/-- The first k of n are listed. -/
def mark (n k : Nat) : Array Bool := ((List.range n).map fun i => decide (i < k)).toArray
theorem mark_at (n k i : Nat) : (mark n k)[i]? = if i < n then some (decide (i < k)) else none := by
  unfold mark
  simp
  split <;> simp_all
theorem mark_zero (n : Nat) : Array.replicate n false = mark n 0 := by
  apply Array.ext_getElem?
  intro i
  rw [mark_at, Array.getElem?_replicate]
  split <;> simp
theorem mark_set {n k : Nat} (hk : k < n) : (mark n k).setIfInBounds k true = mark n (k + 1) := by
  apply Array.ext_getElem?
  intro i
  rw [Array.getElem?_setIfInBounds, mark_at, mark_at]
  by_cases e : k = i
  · subst e
    have : (mark n k).size = n := by simp [mark]
    simp [this, hk]
  · rw [if_neg e]
    split
    · congr 1
      exact decide_eq_decide.2 (by omega)
    · rfl
def okAt (md : Region.Mode) (ops : Array Oper) (n k : Nat) : Bool := Nat.ble n k || ((Region.ready md ops (mark n k)).contains k && Region.free md ops (mark n k) k)
def seg (md : Region.Mode) (ops : Array Oper) (n a : Nat) : Bool := (List.range 12).all fun j => okAt md ops n (a + j)
theorem seg_at {md : Region.Mode} {ops : Array Oper} {n a k : Nat} (h : seg md ops n a = true) (h0 : a ≤ k) (h1 : k < a + 12) : okAt md ops n k = true := by
  have := List.all_eq_true.1 h (k - a) (List.mem_range.2 (by omega))
  rwa [show a + (k - a) = k by omega] at this
theorem lexFrom_steps {md : Region.Mode} {ops : Array Oper} {n : Nat} (h : ∀ k, k < n → okAt md ops n k = true) (he : (Region.ready md ops (mark n n)).isEmpty = true) : ∀ fuel k, fuel + k = n → Region.lexFrom md ops fuel k (mark n k) = true
  | 0, k, e => by
    obtain rfl : k = n := by omega
    exact he
  | fuel + 1, k, e => by
    have hk : k < n := by omega
    have o := h k hk
    unfold okAt at o
    have nb : Nat.ble n k = false := by rw [← Bool.not_eq_true, Nat.ble_eq]; omega
    rw [nb, Bool.false_or, Bool.and_eq_true] at o
    unfold Region.lexFrom
    rw [o.1, o.2, mark_set hk, lexFrom_steps h he fuel (k + 1) (by omega)]
    rfl
theorem lexB_8 {md : Region.Mode} {ops : Array Oper} {n : Nat} (hn : ops.size = n) (h96 : n ≤ 96) (hs : Region.noSelect ops = true) (he : (Region.ready md ops (mark n n)).isEmpty = true)
    (h0 : seg md ops n 0 = true) (h1 : seg md ops n 12 = true) (h2 : seg md ops n 24 = true) (h3 : seg md ops n 36 = true) (h4 : seg md ops n 48 = true) (h5 : seg md ops n 60 = true) (h6 : seg md ops n 72 = true) (h7 : seg md ops n 84 = true) : Region.lexB md ops = true := by
  unfold Region.lexB
  rw [hs, hn, mark_zero, lexFrom_steps (fun k hk => ?_) he n 0 (by omega)]
  · rfl
  · rcases (show k < 12 ∨ (12 ≤ k ∧ k < 24) ∨ (24 ≤ k ∧ k < 36) ∨ (36 ≤ k ∧ k < 48) ∨ (48 ≤ k ∧ k < 60) ∨ (60 ≤ k ∧ k < 72) ∨ (72 ≤ k ∧ k < 84) ∨ (84 ≤ k ∧ k < 96) by omega) with h | h | h | h | h | h | h | h
    · exact seg_at h0 (by omega) (by omega)
    · exact seg_at h1 (by omega) (by omega)
    · exact seg_at h2 (by omega) (by omega)
    · exact seg_at h3 (by omega) (by omega)
    · exact seg_at h4 (by omega) (by omega)
    · exact seg_at h5 (by omega) (by omega)
    · exact seg_at h6 (by omega) (by omega)
    · exact seg_at h7 (by omega) (by omega)

end Go.Proofs.Ytglbfpjjnboeaaa

namespace Go.Proofs.Ytglbfpjjnboeaaa
open Go Go.RowKit
open M

theorem and_wide (c : Int) : bits .and .i64 c 4194303 = c % 4194304 := by
  show IntKind.i64.wrap ((BitVec.ofInt 64 c &&& BitVec.ofInt 64 (4194303 : Int)).toNat : Int) = _
  have e0 : (BitVec.ofInt 64 (4194303 : Int)).toNat = 4194303 := by decide
  have e1 : (BitVec.ofInt 64 c).toNat = (c % 18446744073709551616).toNat := by rw [BitVec.toNat_ofInt]; rfl
  have e2 : ∀ n : Nat, n &&& 4194303 = n % 4194304 := fun n => Nat.and_two_pow_sub_one_eq_mod n 22
  rw [BitVec.toNat_and, e0, e1, e2, IntKind.wrap_i64]
  omega
theorem and_15 (c : Int) : bits .and .i64 c 15 = c % 16 := by
  show IntKind.i64.wrap ((BitVec.ofInt 64 c &&& BitVec.ofInt 64 (15 : Int)).toNat : Int) = _
  have e0 : (BitVec.ofInt 64 (15 : Int)).toNat = 15 := by decide
  have e1 : (BitVec.ofInt 64 c).toNat = (c % 18446744073709551616).toNat := by rw [BitVec.toNat_ofInt]; rfl
  have e2 : ∀ n : Nat, n &&& 15 = n % 16 := fun n => Nat.and_two_pow_sub_one_eq_mod n 4
  rw [BitVec.toNat_and, e0, e1, e2, IntKind.wrap_i64]
  omega
theorem rect_at (w h : Int) : rectL w h = [⟨-(w / 2), -(h / 2)⟩, ⟨-(w / 2), -(h / 2)⟩, ⟨w - w / 2, -(h / 2)⟩, ⟨w - w / 2, -(h / 2)⟩, ⟨w - w / 2, -(h / 2)⟩, ⟨w - w / 2, h - h / 2⟩, ⟨w - w / 2, h - h / 2⟩, ⟨w - w / 2, h - h / 2⟩, ⟨-(w / 2), h - h / 2⟩, ⟨-(w / 2), h - h / 2⟩, ⟨-(w / 2), h - h / 2⟩, ⟨-(w / 2), -(h / 2)⟩, ⟨-(w / 2), -(h / 2)⟩] := by simp [rectL, straightL, rectP, strN, pt]
theorem sq_part {u d x : Int} (hx : x = u / 65536) (d0 : 0 ≤ d) (u0 : -(d * 65536) ≤ u) (u1 : u ≤ d * 65536) : u * u - 8589934592 * d - 4294967296 ≤ 4294967296 * (x * x) ∧ 4294967296 * (x * x) ≤ u * u + 8589934592 * d ∧ -d ≤ x ∧ x ≤ d := by
  obtain ⟨r, hr⟩ : ∃ r, u - 65536 * x = r := ⟨_, rfl⟩
  have r0 : 0 ≤ r := by omega
  have r1 : r < 65536 := by omega
  have x0 : -d ≤ x := by omega
  have x1 : x ≤ d := by omega
  have hu : u = 65536 * x + r := by omega
  have e : u * u = 4294967296 * (x * x) + 131072 * (x * r) + r * r := by rw [hu]; grind
  have p1 : x * r ≤ d * r := Int.mul_le_mul_of_nonneg_right x1 r0
  have p2 : -d * r ≤ x * r := Int.mul_le_mul_of_nonneg_right x0 r0
  have p3 : d * r ≤ d * 65536 := Int.mul_le_mul_of_nonneg_left (by omega) d0
  have p4 : -d * r = -(d * r) := Int.neg_mul _ _
  have p5 : 0 ≤ r * r := Int.mul_nonneg r0 r0
  have p6 : r * r ≤ 65536 * 65536 := Int.mul_le_mul (by omega) (by omega) r0 (by omega)
  rw [e]
  rw [p4] at p2
  generalize x * r = xr at *
  generalize d * r = dr at *
  generalize r * r = rr at *
  generalize x * x = xx at *
  omega
/-- How far a star's place lies. -/
theorem star_far {d c s x y : Int} (d0 : 0 ≤ d) (d1 : d ≤ 4194303) (c0 : -65536 ≤ c) (c1 : c ≤ 65536) (s0 : -65536 ≤ s) (s1 : s ≤ 65536) (h0 : 64881 * 65536 ≤ s * s + c * c) (h1 : s * s + c * c < 66191 * 65536) (hx : x = d * c / 65536) (hy : y = d * s / 65536) :
    (x * x + y * y) / 65536 ≤ d * d / 65536 * 102 / 100 + 4194304 ∧ d * d / 65536 * 98 / 100 - 4194304 ≤ (x * x + y * y) / 65536 ∧ 0 ≤ x * x + y * y ∧ x * x + y * y ≤ 40000000000000 ∧ -4194303 ≤ x ∧ x ≤ 4194303 ∧ -4194303 ≤ y ∧ y ≤ 4194303 ∧ 0 ≤ x * x ∧ x * x ≤ 20000000000000 ∧ 0 ≤ y * y ∧ y * y ≤ 20000000000000 := by
  have u0 : d * c ≤ d * 65536 := Int.mul_le_mul_of_nonneg_left c1 d0
  have u1 : d * (-65536) ≤ d * c := Int.mul_le_mul_of_nonneg_left c0 d0
  have v0 : d * s ≤ d * 65536 := Int.mul_le_mul_of_nonneg_left s1 d0
  have v1 : d * (-65536) ≤ d * s := Int.mul_le_mul_of_nonneg_left s0 d0
  obtain ⟨a1, a2, a3, a4⟩ := sq_part hx d0 (by omega) u0
  obtain ⟨b1, b2, b3, b4⟩ := sq_part hy d0 (by omega) v0
  have e : d * c * (d * c) + d * s * (d * s) = d * d * (s * s + c * c) := by grind
  have D0 : 0 ≤ d * d := Int.mul_nonneg d0 d0
  have D1 : d * d ≤ 4194303 * 4194303 := Int.mul_le_mul d1 d1 d0 (by omega)
  have m0 : d * d * (64881 * 65536) ≤ d * d * (s * s + c * c) := Int.mul_le_mul_of_nonneg_left h0 D0
  have m1 : d * d * (s * s + c * c) ≤ d * d * (66191 * 65536) := Int.mul_le_mul_of_nonneg_left (by omega) D0
  have x0 := sq_pos x
  have y0 := sq_pos y
  rw [← e] at m0 m1
  clear e hx hy h0 h1 u0 u1 v0 v1 c0 c1 s0 s1
  generalize d * c * (d * c) = U at *
  generalize d * s * (d * s) = V at *
  generalize d * d = D at *
  generalize x * x = X at *
  generalize y * y = Y at *
  omega

theorem strN_at (ps : List Pt) : ∀ n i, i ≤ n → pt (strN ps n) (3 * i) = pt ps (i % ps.length)
  | 0, i, h => by
    obtain rfl : i = 0 := by omega
    rw [Nat.zero_mod]
    rfl
  | n + 1, i, h => by
    unfold strN
    by_cases e : i ≤ n
    · have := strN_at ps n i e
      rw [← this]
      unfold pt
      rw [List.getD_eq_getElem?_getD, List.getD_eq_getElem?_getD, List.getElem?_append_left (by rw [strN_length]; omega), List.getD_eq_getElem?_getD]
    · obtain rfl : i = n + 1 := by omega
      unfold pt
      rw [List.getD_eq_getElem?_getD, List.getElem?_append_right (by rw [strN_length]; omega), strN_length, show 3 * (n + 1) - (3 * n + 1) = 2 by omega]
      simp
theorem star_at {n : Nat} {r s : Int} (h0 : 2 ≤ n) (h1 : n ≤ 16) {m : Nat} (hm : m < 2 * n) : pt (starL n r s) (3 * m) = starP n r s m := by
  have PT : points (n : Int) = n := by unfold points clamp; rw [if_neg (by omega), if_neg (by omega)]
  unfold starL straightL
  rw [PT, Int.toNat_natCast, starN_length, strN_at _ _ _ (by omega), starN_length, Nat.mod_eq_of_lt hm]
  unfold starN
  exact pt_mapIdx _ hm
theorem mul_plain {f c : Int} (f0 : 0 ≤ f) (f1 : f ≤ 4194303) (c0 : -65536 ≤ c) (c1 : c ≤ 65536) : mul f c = f * c / 65536 := by
  have u0 : f * c ≤ f * 65536 := Int.mul_le_mul_of_nonneg_left c1 f0
  have u1 : f * (-65536) ≤ f * c := Int.mul_le_mul_of_nonneg_left c0 f0
  unfold mul
  rw [hold_in (a := f) (by omega) (by omega), hold_in (a := c) (by omega) (by omega)]
  generalize f * c = u at *
  exact hold_in (by omega) (by omega)
/-- A star's place, and what the statement asks of it. -/
theorem star_place {n : Nat} {r s f : Int} (h0 : 2 ≤ n) (h1 : n ≤ 16) {m : Nat} (hm : m < 2 * n) (hf : (if m % 2 = 1 then s else r) = f) (f0 : 0 ≤ f) (f1 : f ≤ 4194303) {x y : Int} (hp : pt (starL n r s) (3 * m) = ⟨x, y⟩) :
    (x * x + y * y) / 65536 ≤ f * f / 65536 * 102 / 100 + 4194304 ∧ f * f / 65536 * 98 / 100 - 4194304 ≤ (x * x + y * y) / 65536 ∧ 0 ≤ x * x + y * y ∧ x * x + y * y ≤ 40000000000000 ∧ -4194303 ≤ x ∧ x ≤ 4194303 ∧ -4194303 ≤ y ∧ y ≤ 4194303 ∧ 0 ≤ x * x ∧ x * x ≤ 20000000000000 ∧ 0 ≤ y * y ∧ y * y ≤ 20000000000000 := by
  rw [star_at h0 h1 hm] at hp
  unfold starP at hp
  rw [hf] at hp
  have C := cos_bd (angle n m)
  have S := sin_bd (angle n m)
  have N := squares_near (angle n m)
  simp only [Pt.mk.injEq] at hp
  obtain ⟨hx, hy⟩ := hp
  rw [mul_plain f0 f1 C.1 C.2] at hx
  rw [mul_plain f0 f1 S.1 S.2] at hy
  exact star_far f0 f1 C.1 C.2 S.1 S.2 N.1 N.2 hx.symm hy.symm

set_option maxRecDepth 100000 in
set_option maxHeartbeats 8000000 in
theorem shapeSides_walk (x y n : Int) (_ : (Lit.int .i64 x).wf = true) (_ : (Lit.int .i64 y).wf = true) (_ : (Lit.int .i64 n).wf = true) (w : World) :
    Calls Try.prog 4 #[.int .i64 x, .int .i64 y, .int .i64 n] w fun e w' => e = .returned (.bool true) ∧ Below w.heap.size w w' := by
  obtain ⟨a, ha⟩ : ∃ q, bits .and .i64 x 4194303 = q := ⟨_, rfl⟩
  obtain ⟨b, hb⟩ : ∃ q, bits .and .i64 y 4194303 = q := ⟨_, rfl⟩
  have a0 : 0 ≤ a ∧ a ≤ 4194303 := by rw [← ha, and_wide]; omega
  have b0 : 0 ≤ b ∧ b ≤ 4194303 := by rw [← hb, and_wide]; omega
  obtain ⟨c, hc⟩ : ∃ q, bits .and .i64 n 15 = q := ⟨_, rfl⟩
  have c0 : 0 ≤ c ∧ c ≤ 15 := by rw [← hc, and_15]; omega
  go_enter Try.func4, Try.ntmps4
  go_wp2_with fail
  clear ha hb
  refine (sh_rect a b w ⟨by omega, by omega⟩ ⟨by omega, by omega⟩).mono ?_
  rintro e w1 ⟨v, rfl, ho, hq⟩
  obtain ⟨g, cap, rfl⟩ := ho.shape (by rw [rect_length]; decide)
  have sr := ho.sl (by rw [rect_length]; decide)
  rw [rect_length] at sr ⊢
  have SR := Lib.hid sr
  have HQ := Lib.hid hq
  clear ho hq sr
  go_wp2_with fail
  refine (sh_oval a b w1 ⟨by omega, by omega⟩ ⟨by omega, by omega⟩).mono ?_
  rintro e w2 ⟨v2, rfl, ho2, hq2⟩
  obtain ⟨g2, cap2, rfl⟩ := ho2.shape (by rw [oval_length]; decide)
  have so := ho2.sl (by rw [oval_length]; decide)
  rw [oval_length] at so ⊢
  have SO := Lib.hid so
  have SR2 := Lib.hid (SR.out.below hq2 (Nat.le_refl _))
  have HQ2 := Lib.hid (HQ.out.trans (hq2.mono HQ.out.size))
  clear ho2 hq2 so SR HQ
  obtain ⟨V, hV⟩ : ∃ V, (w2.alloc (.cells #[.bool true, .slice (some ⟨g, 0, none⟩) 13 cap] 41)).alloc (.cells #[.bool true, .slice (some ⟨g2, 0, none⟩) 13 cap2] 41) = V := ⟨_, rfl⟩
  obtain ⟨B, hB⟩ : ∃ B, w2.heap.size = B := ⟨_, rfl⟩
  have bV : Below w2.heap.size w2 V := by rw [← hV]; exact ((Below.refl _ _).alloc (Nat.le_refl _) _).alloc (by simp) _
  have kR : Has V B #[.bool true, .slice (some ⟨g, 0, none⟩) 13 cap] 41 := by rw [← hV]; exact (has_new hB).alloc _
  have kO : Has V (B + 1) #[.bool true, .slice (some ⟨g2, 0, none⟩) 13 cap2] 41 := by rw [← hV]; exact has_new (by simp [hB])
  obtain ⟨h1, hh1⟩ : ∃ q, a / 2 = q := ⟨_, rfl⟩
  obtain ⟨h2, hh2⟩ : ∃ q, b / 2 = q := ⟨_, rfl⟩
  have sR := SR2.out.below bV (Nat.le_refl _)
  have sO := SO.out.below bV (Nat.le_refl _)
  have eR : rectL a b = _ := rect_at a b
  have eO : ovalL a b = ovalN h1 h2 (mul h1 36195) (mul h2 36195) := by unfold ovalL; rw [hh1, hh2]
  rw [hh1, hh2] at eR
  rw [eR] at sR
  rw [eO] at sO
  obtain ⟨px, hpx⟩ : ∃ q, -h1 = q := ⟨_, rfl⟩
  obtain ⟨py, hpy⟩ : ∃ q, -h2 = q := ⟨_, rfl⟩
  obtain ⟨qx, hqx⟩ : ∃ q, a - h1 = q := ⟨_, rfl⟩
  obtain ⟨qy, hqy⟩ : ∃ q, b - h2 = q := ⟨_, rfl⟩
  rw [hpx, hpy, hqx, hqy] at sR
  have e1 : qx - px = a := by omega
  have e2 : qy - py = b := by omega
  have bx : -4194304 ≤ px ∧ px ≤ 4194304 := by omega
  have by' : -4194304 ≤ py ∧ py ≤ 4194304 := by omega
  have bqx : -4194304 ≤ qx ∧ qx ≤ 4194304 := by omega
  have bqy : -4194304 ≤ qy ∧ qy ≤ 4194304 := by omega
  have b1 : -4194304 ≤ h1 ∧ h1 ≤ 4194304 := by omega
  have b2 : -4194304 ≤ h2 ∧ h2 ≤ 4194304 := by omega
  have rR := fun z : Later V => psl_row (sR.later z) (by simp)
  have rO := fun z : Later V => psl_row (sO.later z) (by simp [ovalN])
  have r0 := fun z => (rR z).c0 0 (by simp)
  have r0' := fun z => (rR z).c1 0 (by simp)
  have r3 := fun z => (rR z).c0 3 (by simp)
  have r3' := fun z => (rR z).c1 3 (by simp)
  have r6 := fun z => (rR z).c0 6 (by simp)
  have r6' := fun z => (rR z).c1 6 (by simp)
  have r12 := fun z => (rR z).c0 12 (by simp)
  have r12' := fun z => (rR z).c1 12 (by simp)
  have o0 := fun z => (rO z).c0 0 (by simp [ovalN])
  have o6 := fun z => (rO z).c0 6 (by simp [ovalN])
  have o3 := fun z => (rO z).c1 3 (by simp [ovalN])
  have o9 := fun z => (rO z).c1 9 (by simp [ovalN])
  simp only [pt, List.getD_cons_succ, List.getD_cons_zero, Nat.zero_add, Nat.zero_mul, Nat.reduceMul] at r0 r0' r3 r3' r6 r6' r12 r12'
  simp only [pt, ovalN, List.getD_cons_succ, List.getD_cons_zero, Nat.zero_add, Nat.zero_mul, Nat.reduceMul] at o0 o3 o6 o9
  rw [hpx] at o6
  rw [hpy] at o9
  have k0 := Later.read kR 1 _ rfl
  have k1 := Later.read kO 1 _ rfl
  have HQV := Lib.hid (HQ2.out.trans (bV.mono HQ2.out.size))
  have HV := Lib.hid hV
  clear rR rO sR sO eR eO kR kO bV hV HQ2 SO SR2 hqx hqy
  go_upto_region 4 with fail
  rw [HV.out]
  clear hB
  go_cut [119] (fun v wx => v = .bool false ∧ Below V.heap.size V wx)
  case first =>
    refine wp_region_class (C := fun w' => ∃ z : Later V, w' = z.to) (by kernel_rfl) (lexB_8 (n := 93) (by kernel_rfl) (by decide) (by as_aux_lemma => kernel_rfl) (by as_aux_lemma => kernel_rfl) (by as_aux_lemma => kernel_rfl) (by as_aux_lemma => kernel_rfl) (by as_aux_lemma => kernel_rfl) (by as_aux_lemma => kernel_rfl) (by as_aux_lemma => kernel_rfl) (by as_aux_lemma => kernel_rfl) (by as_aux_lemma => kernel_rfl) (by as_aux_lemma => kernel_rfl)) ⟨⟨_, below_drew (Below.refl _ _)⟩, rfl⟩ ?_
    simp only [List.append_eq, List.cons_append, List.nil_append]
    iterate 24 (go_big_quiet_step (fail))
    as_aux_lemma =>
      iterate 24 (go_big_quiet_step (fail))
      as_aux_lemma =>
        iterate 24 (go_big_quiet_step (fail))
        as_aux_lemma =>
          repeat (go_big_quiet_step (fail))
          refine wpQuiet_nil ?_
          rintro _ ⟨z, rfl⟩
          first
            | (go_wp2_with fail; go_meet; exact ⟨rfl, z.below⟩)
            | (simp only [Exit.then]; go_meet; exact ⟨rfl, z.below⟩)
  case rest =>
    obtain ⟨rfl, hcb⟩ := hcut
    have HC := Lib.hid (HQV.out.trans (hcb.mono HQV.out.size))
    clear hcb k0 k1 r0 r0' r3 r3' r6 r6' r12 r12' o0 o3 o6 o9 bx by' bqx bqy b1 b2 e1 e2 hh1 hh2 hpx hpy HQV HV
    obtain ⟨k, hk⟩ : ∃ k : Nat, (k : Int) = 2 + c % 15 := ⟨(2 + c % 15).toNat, by omega⟩
    have k2 : (2 : Int) ≤ k ∧ (k : Int) ≤ 16 := by omega
    have kk : 2 + c % 15 = (k : Int) := hk.symm
    have PT : points (k : Int) = k := by unfold points clamp; rw [if_neg (by omega), if_neg (by omega)]
    have LS : (starL k a b).length = 6 * k + 1 := by unfold starL; rw [straightL_length, starN_length, PT, Int.toNat_natCast]; omega
    have HLS := Lib.hid LS
    have HPT := Lib.hid PT
    clear LS PT hk
    go_wp2_with fail
    clear hc kk
    refine (sh_star k a b _).mono ?_
    rintro e w3 ⟨v3, rfl, ho3, hq3⟩
    obtain ⟨g3, cap3, rfl⟩ := ho3.shape (by rw [HLS.out]; omega)
    have S3 := Lib.hid (ho3.sl (by rw [HLS.out]; omega))
    have Q3 := Lib.hid (HC.out.trans (hq3.mono HC.out.size))
    rw [HLS.out] at S3 ⊢
    obtain ⟨LN, hLN⟩ : ∃ n, 6 * k + 1 = n := ⟨_, rfl⟩
    rw [hLN] at HLS S3 ⊢
    have eL : 1 + 6 * (k : Int) = (LN : Int) := by omega
    have HLN := Lib.hid hLN
    clear ho3 hq3 HC hLN
    obtain ⟨X, hX⟩ : ∃ X, w3.alloc (.cells #[.bool true, .slice (some ⟨g3, 0, none⟩) LN cap3] 41) = X := ⟨_, rfl⟩
    obtain ⟨G, hG⟩ : ∃ G, w3.heap.size = G := ⟨_, rfl⟩
    have bX : Below w3.heap.size w3 X := by rw [← hX]; exact (Below.refl _ _).alloc (Nat.le_refl _) _
    have kX : Has X G #[.bool true, .slice (some ⟨g3, 0, none⟩) LN cap3] 41 := by rw [← hX]; exact has_new hG
    have HX := Lib.hid hX
    have KX := Lib.hid kX
    have QX := Lib.hid (Q3.out.trans (bX.mono Q3.out.size))
    have SX := Lib.hid (S3.out.below bX (Nat.le_refl _))
    clear hX bX Q3 S3
    have k0 := kX.cell 1 _ rfl
    go_upto_region 7 with fail
    rw [HX.out]
    clear hG
    go_wp2
    go_loopw [13] (fun i wr => ∃ m : Nat, m ≤ 2 * k ∧ i = .int .i64 m ∧ Below X.heap.size X wr) (fun i _ => 2 * k - (intOf i).toNat)
    case atStart => exact ⟨0, by omega, rfl, Below.refl _ _⟩
    case round =>
      clear k0
      obtain ⟨m, hm, rfl, hb⟩ := hrel
      have HB := Lib.hid hb
      by_cases hlt : m < 2 * k
      · have o3 : (m : Int) < 2 * k := by omega
        have kw := KX.out.below hb KX.out.lt
        have k0 := kw.cell 1 _ rfl
        have row := psl_row (SX.out.below hb (Nat.le_refl _)) (by rw [HLS.out]; omega)
        have o4 : 3 * (m : Int) < LN := by omega
        obtain ⟨t, ht⟩ : ∃ t, 3 * m = t := ⟨_, rfl⟩
        have et : 3 * (m : Int) = (t : Int) := by omega
        have o5 : (t : Int) < LN := by omega
        have c0' := row.c0 t (by rw [HLS.out]; omega)
        have c1' := row.c1 t (by rw [HLS.out]; omega)
        obtain ⟨p, hp⟩ : ∃ p, pt (starL k a b) t = p := ⟨_, rfl⟩
        rw [hp] at c0' c1'
        simp only [Nat.zero_add] at c0' c1'
        have HP := Lib.hid hp
        have HTT := Lib.hid ht
        obtain ⟨Y, hY⟩ : ∃ Y, wr.alloc (.cells (pCells p) 31) = Y := ⟨_, rfl⟩
        obtain ⟨A, hA⟩ : ∃ A, wr.heap.size = A := ⟨_, rfl⟩
        have kY : Has Y A (pCells p) 31 := by rw [← hY]; exact has_new hA
        have bY : Below wr.heap.size wr Y := by rw [← hY]; exact (Below.refl _ _).alloc (Nat.le_refl _) _
        have HY := Lib.hid hY
        have KY := Lib.hid kY
        have BY := Lib.hid (hb.trans (bY.mono hb.size))
        clear hb kw row hp ht hY bY kY
        obtain ⟨px', py'⟩ := p
        simp only at c0' c1'
        obtain ⟨f, hf⟩ : ∃ f, (if m % 2 = 1 then b else a) = f := ⟨_, rfl⟩
        have f0 : 0 ≤ f ∧ f ≤ 4194303 := by rw [← hf]; split <;> assumption
        have ff := sq_pos f
        have ff1 : f * f ≤ 4194303 * 4194303 := Int.mul_le_mul f0.2 f0.2 f0.1 (by omega)
        obtain ⟨z1, z2, z3, z4, z5, z6, z7, z8, z9, z10, z11, z12⟩ := star_place (n := k) (by omega) (by omega) hlt hf f0.1 f0.2 (show pt (starL k a b) (3 * m) = ⟨px', py'⟩ by rw [HTT.out]; exact HP.out)
        obtain ⟨XX, hXX⟩ : ∃ q, px' * px' = q := ⟨_, rfl⟩
        obtain ⟨YY, hYY⟩ : ∃ q, py' * py' = q := ⟨_, rfl⟩
        rw [hXX, hYY] at z1 z2 z3 z4
        rw [hXX] at z9 z10
        rw [hYY] at z11 z12
        obtain ⟨Q, hQ⟩ : ∃ q, (XX + YY) / 65536 = q := ⟨_, rfl⟩
        have Q0 : 0 ≤ Q ∧ Q ≤ 1000000000 := by omega
        rw [hQ] at z1 z2
        obtain ⟨FF, hFF⟩ : ∃ q, f * f = q := ⟨_, rfl⟩
        rw [hFF] at z1 z2 ff ff1
        obtain ⟨E0, hE0⟩ : ∃ q, FF / 65536 = q := ⟨_, rfl⟩
        have E1 : 0 ≤ E0 ∧ E0 ≤ 1000000000 := by omega
        rw [hE0] at z1 z2
        obtain ⟨U, hU⟩ : ∃ q, E0 * 102 / 100 = q := ⟨_, rfl⟩
        obtain ⟨L, hL⟩ : ∃ q, E0 * 98 / 100 = q := ⟨_, rfl⟩
        rw [hU] at z1
        rw [hL] at z2
        have U0 : 0 ≤ U ∧ U ≤ 2000000000 := by omega
        have L0 : 0 ≤ L ∧ L ≤ 1000000000 := by omega
        have W2 := Lib.hid (fun (W' : World) (h : Below Y.heap.size Y W') => BY.out.trans (h.mono BY.out.size))
        have yA := KY.out.cell 0 _ rfl
        have yB := KY.out.cell 1 _ rfl
        have dc : ∀ o, (Y.alloc o).cell? ⟨A, 0, none⟩ = some (.int .i64 px') := fun o => (KY.out.alloc o).cell 0 _ rfl
        have dc' : ∀ o, (Y.alloc o).cell? ⟨A, 1, none⟩ = some (.int .i64 py') := fun o => (KY.out.alloc o).cell 1 _ rfl
        have fz : ((m : Int) % 2 = ((m % 2 : Nat) : Int)) := by omega
        clear f0
        rcases (show m % 2 = 0 ∨ m % 2 = 1 by omega) with hm2 | hm2
        all_goals
          rw [hm2] at fz hf
          simp at fz
          first | rw [if_neg (by omega)] at hf | rw [if_pos rfl] at hf
          subst hf
          clear hm2
          go_upto_region 13 with fail
          rw [HY.out]
          clear hA yA yB c0' c1'
          go_wp2
          go_roundw
          case rel => exact ⟨m + 1, by omega, by go_num, W2.out _ ((Below.refl _ _).alloc (Nat.le_refl _) _)⟩
          case measure => simp [intOf]; omega
      · obtain rfl : m = 2 * k := by omega
        have o3 : ((2 * k : Nat) : Int) = 2 * (k : Int) := by omega
        have HZ := Lib.hid (QX.out.trans (hb.mono QX.out.size))
        clear hb HB
        go_wp2_with fail
        refine (known13 _).mono ?_
        rintro e w9 ⟨rfl, hq9⟩
        have HY := Lib.hid (HZ.out.trans (hq9.mono HZ.out.size))
        clear hq9
        go_wp2
        go_ret
        exact ⟨rfl, HY.out⟩

end Go.Proofs.Ytglbfpjjnboeaaa

namespace Go.Proofs.Ytglbfpjjnboeaaa.shapeSides
open Go.ChangeShapes Go.WideShapes Go.ChangeAt Go.RowKit

theorem post_below {H : Type} {enc : TypeId × Value → H} {P : Program} {f : Func} {s : ChangeSpec} {apart fresh handsOn : Bool} {W V : World} {args : Array Value} {v : Value} {ds gs : List (DataW H)} {before pa pv : List MemPlace}
    (hW : DataW.Whole enc P f.params.toList s.vars apart W args.toList ds gs before)
    (hres : ∀ (b : Nat) (sp : Nat → Bool) (hd : Bool), DataW.TrodAll enc P V b sp hd f.resultTypes.toList (v.resultList f.resultTypes.size) (s.fn H (ds ++ gs)).results [])
    (hargs : ∀ sp : Nat → Bool, (∀ p ∈ before, sp p.block = true) → DataW.TrodAll enc P V 0 sp true f.params.toList args.toList (s.fn H (ds ++ gs)).args pa)
    (hvars : ∀ sp : Nat → Bool, (∀ p ∈ before, sp p.block = true) → DataW.TrodVars enc P V sp s.vars (s.fn H (ds ++ gs)).vars pv)
    (hps : before = pa ++ pv) (hb : Below W.heap.size W V) : s.post enc P f apart fresh handsOn false W args v V := by
  have hl : ∀ p ∈ before, (fun b => decide (b < W.heap.size)) p.block = true := fun p hp => by simpa using hW.lt p hp
  refine ⟨ds, gs, before, [], pa, pv, hW, hres _ _ _, hargs _ hl, hvars _ hl, World.keptBut_mono (fun p hp => ⟨hp, ?_⟩) (hb.frame (· ∈ before)), fun h => by cases h⟩
  rw [hps, List.mem_append] at hp
  exact Or.inr hp

theorem own : ownKnob Try.prog.godebug = none := by kernel_rfl

set_option maxRecDepth 100000 in
theorem lifted (os : Os) (started : os.Started) (H : Type) (enc : TypeId × Value → H) :
    ReturnsInHanded {} Try.checked os 4 .any (Rows.shapeSidesSpec.pre6 enc Try.prog Try.f4 Rows.shapeSidesRow.domain false) (Rows.shapeSidesSpec.post enc Try.prog Try.f4 false true false false) := by
  refine returnsInHanded_of_change (C := Try.checked) own started (by kernel_rfl) Try.func4
    (ChangeSpec.witness6 (enc := enc) (C := Try.checked) false ⟨#[], #[.int .i64 0, .int .i64 0, .int .i64 0], []⟩ 8 (by kernel_rfl) (by kernel_rfl) (by kernel_rfl) (by kernel_rfl)) ?_
  intro W base args ds gs before hval0 hW hcnd _
  have hval : ∀ (j : Nat) t v, Try.f4.params[j]? = some t → args[j]? = some v → Value.okWide Try.prog W .any base t v := hval0
  have hW' := hW
  obtain ⟨p, q, hA0, hV, rfl, hfz, hnd⟩ := hW
  have hA : DataW.TrodAll enc Try.prog W 0 (fun _ => true) true Try.f4.params.toList args.toList ds p := hA0
  rw [Try.params4] at hA hval
  obtain ⟨v0, vs0, d0, ds0, p0, q0, hargs, rfl, rfl, h0, r0⟩ := trodAll_cons hA
  obtain ⟨v1, vs1, d1, ds1, p1, q1, rfl, rfl, rfl, h1, r1⟩ := trodAll_cons r0
  obtain ⟨v2, vs2, d2, ds2, p2, q2, rfl, rfl, rfl, h2, r2⟩ := trodAll_cons r1
  obtain ⟨rfl, rfl, rfl⟩ := trodAll_nil r2
  obtain rfl : args = #[v0, v1, v2] := by cases args; simp_all
  obtain ⟨rfl, rfl⟩ := trodVars_none hV
  obtain ⟨a0, rfl, rfl, rfl, w0⟩ := open_int Try.underlying2 (hval 0 2 v0 rfl rfl) h0
  obtain ⟨a1, rfl, rfl, rfl, w1⟩ := open_int Try.underlying2 (hval 1 2 v1 rfl rfl) h1
  obtain ⟨a2, rfl, rfl, rfl, w2⟩ := open_int Try.underlying3 (hval 2 3 v2 rfl rfl) h2
  clear hA0 hval0
  simp only [List.append_nil] at hW'
  refine (shapeSides_walk a0 a1 a2 w0 w1 w2 W).mono fun e W' ⟨he, hg⟩ => ?_
  subst he
  exact ⟨_, rfl, post_below (pa := []) (pv := []) hW' (fun _ _ _ => (trodAll_cons_mk (shut_bool Try.underlying4 _) trodAll_mk0)) (fun sp _ => (trodAll_cons_mk (shut_int Try.underlying2 w0) (trodAll_cons_mk (shut_int Try.underlying2 w1) (trodAll_cons_mk (shut_int Try.underlying3 w2) trodAll_mk0)))) (fun _ _ => rfl) rfl hg⟩

theorem over : Rows.shapeSidesRow.holds Try.pinned (OpenSpec.ofChange Rows.shapeSidesSpec) :=
  OpenClaim.holds_of_wide 4 Try.f4 rfl rfl rfl rfl rfl rfl rfl ⟨rfl, rfl, rfl, rfl, rfl⟩ rfl rfl rfl rfl rfl (by kernel_rfl) Try.func4 (by kernel_rfl)
    (of_decide_eq_true (by kernel_rfl)) (by unfold Func.isWrapper; first | (rw [if_pos (by decide +kernel)]; kernel_rfl) | (rw [if_neg (by decide +kernel)]; exact ⟨rfl, rfl⟩))
    (fun os started H enc _ => lifted os started H enc)

end Go.Proofs.Ytglbfpjjnboeaaa.shapeSides
namespace Go.Proofs.Ytglbfpjjnboeaaa
theorem shapeSides_holds : Rows.ShapeSidesSaid := shapeSides.over
#print axioms shapeSides_holds
end Go.Proofs.Ytglbfpjjnboeaaa
