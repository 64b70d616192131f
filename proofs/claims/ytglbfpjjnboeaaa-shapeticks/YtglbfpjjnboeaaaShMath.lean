/- The plain arithmetic of the document's thirteenth chapter (rectangles, ovals, stars as paths), on Lean's own integers and lists: no condition but those that the theorems name; no program is named here. -/
import Derived.Test.YtglbfpjjnboeaaaPMath
import Derived.Test.YtglbfpjjnboeaaaTMath
namespace Go.Proofs.Ytglbfpjjnboeaaa
namespace M

/-- The path behind the first n sides of a ring of places. -/
def strN (ps : List Pt) : Nat → List Pt
  | 0 => [pt ps 0]
  | n + 1 => strN ps n ++ [pt ps n, pt ps ((n + 1) % ps.length), pt ps ((n + 1) % ps.length)]
def straightL (ps : List Pt) : List Pt := strN ps ps.length
theorem strN_length (ps : List Pt) : ∀ n, (strN ps n).length = 3 * n + 1
  | 0 => rfl
  | n + 1 => by unfold strN; rw [List.length_append, strN_length ps n]; simp; omega
theorem straightL_length (ps : List Pt) : (straightL ps).length = 3 * ps.length + 1 := strN_length _ _
def rectP (w h : Int) : List Pt := [⟨-(w / 2), -(h / 2)⟩, ⟨w - w / 2, -(h / 2)⟩, ⟨w - w / 2, h - h / 2⟩, ⟨-(w / 2), h - h / 2⟩]
def rectL (w h : Int) : List Pt := straightL (rectP w h)
def ovalN (a b k l : Int) : List Pt := [⟨a, 0⟩, ⟨a, l⟩, ⟨k, b⟩, ⟨0, b⟩, ⟨-k, b⟩, ⟨-a, l⟩, ⟨-a, 0⟩, ⟨-a, -l⟩, ⟨-k, -b⟩, ⟨0, -b⟩, ⟨k, -b⟩, ⟨a, -l⟩, ⟨a, 0⟩]
def ovalL (w h : Int) : List Pt := ovalN (w / 2) (h / 2) (mul (w / 2) 36195) (mul (h / 2) 36195)
/-- How many points a star has. -/
def points (n : Int) : Int := clamp n 2 16
def angle (c : Int) (j : Nat) : Int := (j * 11796480) / c - 5898240
def starP (c r s : Int) (j : Nat) : Pt := ⟨mul (if j % 2 = 1 then s else r) (cos (angle c j)), mul (if j % 2 = 1 then s else r) (sin (angle c j))⟩
def starN (c r s : Int) (n : Nat) : List Pt := (List.range n).map (starP c r s)
def starL (n r s : Int) : List Pt := straightL (starN (points n) r s (2 * (points n).toNat))
theorem starN_length (c r s : Int) (n : Nat) : (starN c r s n).length = n := by simp [starN]
theorem starN_snoc (c r s : Int) (n : Nat) : starN c r s (n + 1) = starN c r s n ++ [starP c r s n] := by unfold starN; rw [List.range_succ]; simp

end M
end Go.Proofs.Ytglbfpjjnboeaaa
