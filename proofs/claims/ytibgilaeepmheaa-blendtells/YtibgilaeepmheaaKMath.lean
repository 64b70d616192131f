/- The plain arithmetic of the document's fifth chapter (keys: which one, what they tell, which may be), on Lean's own integers and lists: no condition but those that the theorems name; no program is named here. -/
import Derived.Test.YtibgilaeepmheaaEMath
namespace Go.Proofs.Ytibgilaeepmheaa
namespace M

/-- A key: tick, number, how, and the four numbers of its ease. -/
structure Ky where
  t : Int
  v : Int
  h : Int
  a : Int
  b : Int
  c : Int
  d : Int
deriving DecidableEq
instance : Inhabited Ky := ⟨⟨0, 0, 0, 0, 0, 0, 0⟩⟩
/-- Key i of a list. -/
def ky (ks : List Ky) (i : Nat) : Ky := ks.getD i default

def goes (h a b c d p : Int) : Int := if h = 0 then (if 65536 ≤ p then 65536 else 0) else if h = 1 then p else if h = 2 then curve a b c d p else 0
/-- The last of the first n whose tick has come. -/
def findN (ks : List Ky) (t : Int) : Nat → Int
  | 0 => -1
  | n + 1 => if (ky ks n).t ≤ t then (n : Int) else findN ks t n
def find (ks : List Ky) (t : Int) : Int := findN ks t ks.length
def tween (x y : Ky) (t : Int) : Int := mid x.v y.v (goes x.h x.a x.b x.c x.d (prt x.t y.t t))
def atk (ks : List Ky) (t none : Int) : Int :=
  if ks.length = 0 then none
  else if find ks t < 0 then (ky ks 0).v
  else if find ks t = (ks.length : Int) - 1 then (ky ks (find ks t).toNat).v
  else tween (ky ks (find ks t).toNat) (ky ks ((find ks t).toNat + 1)) t
def okIn (x far : Int) : Bool := decide (-far ≤ x) && decide (x ≤ far)
def okHow (h a b c d : Int) : Bool := if h = 0 ∨ h = 1 then decide (a = 0 ∧ b = 0 ∧ c = 0 ∧ d = 0) else if h = 2 then okE a b c d else false
def okK (k : Ky) : Bool := okIn k.t 1073741824 && okIn k.v 67108864 && okHow k.h k.a k.b k.c k.d
/-- The first n may be, and rise. -/
def rightN (ks : List Ky) : Nat → Bool
  | 0 => true
  | n + 1 => rightN ks n && okK (ky ks n) && (decide (n = 0) || decide ((ky ks (n - 1)).t < (ky ks n).t))
def right (ks : List Ky) : Bool := decide (ks.length ≤ 32) && rightN ks ks.length

theorem findN_le (ks : List Ky) (t : Int) : ∀ n, -1 ≤ findN ks t n ∧ findN ks t n < (n : Int)
  | 0 => by simp [findN]
  | n + 1 => by
    have := findN_le ks t n
    unfold findN
    split <;> omega
theorem find_bd (ks : List Ky) (t : Int) : -1 ≤ find ks t ∧ find ks t < (ks.length : Int) := findN_le ks t _
theorem findN_hit {ks : List Ky} {t : Int} {n : Nat} (h : (ky ks n).t ≤ t) : findN ks t (n + 1) = n := if_pos h
theorem findN_miss {ks : List Ky} {t : Int} {n : Nat} (h : ¬ (ky ks n).t ≤ t) : findN ks t (n + 1) = findN ks t n := if_neg h
theorem rightN_mono {ks : List Ky} {m n : Nat} (h : m ≤ n) (hn : rightN ks n = true) : rightN ks m = true := by
  induction n with
  | zero => obtain rfl : m = 0 := by omega
            exact hn
  | succ n ih =>
    by_cases e : m = n + 1
    · rw [e]; exact hn
    · simp only [rightN, Bool.and_eq_true] at hn
      exact ih (by omega) hn.1.1
theorem rightN_off {ks : List Ky} {m n : Nat} (h : m ≤ n) (hm : rightN ks m = false) : rightN ks n = false := by
  cases e : rightN ks n with
  | false => rfl
  | true => rw [rightN_mono h e] at hm; cases hm

end M
end Go.Proofs.Ytibgilaeepmheaa
