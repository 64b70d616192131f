/- The plain arithmetic of the document's seventeenth chapter (shares of bytes, a cover's strength, pixels faded, laid over one another, matted), on Lean's own integers: no program is named here. -/
import Derived.Test.YtibgilaeepmheaaHMath
namespace Go.Proofs.Ytibgilaeepmheaa
namespace M

def byB (a b : Int) : Int := (clamp a 0 255 * clamp b 0 255 + 127) / 255
def strB (c : Int) : Int := (clamp c 0 16 * 255 + 8) / 16
def fadeB (p : Cr) (k : Int) : Cr := ⟨byB p.r k, byB p.g k, byB p.b k, byB p.q k⟩
/-- The alpha of a colour laid down. -/
def keyB (c : Cr) (al co : Int) : Int := byB (byB c.q al) (strB co)
def ofB (c : Cr) (al co : Int) : Cr := ⟨byB c.r (keyB c al co), byB c.g (keyB c al co), byB c.b (keyB c al co), keyB c al co⟩
def overB (l h : Cr) : Cr := ⟨min (h.r + byB l.r (255 - h.q)) 255, min (h.g + byB l.g (255 - h.q)) 255, min (h.b + byB l.b (255 - h.q)) 255, min (h.q + byB l.q (255 - h.q)) 255⟩
def matteB (p m : Cr) (how : Int) : Cr := if how = 1 then fadeB p m.q else if how = 2 then fadeB p (luma m) else p

theorem clamp_inB {a lo hi : Int} (h : lo ≤ hi) : lo ≤ clamp a lo hi ∧ clamp a lo hi ≤ hi := by unfold clamp; split <;> (try split) <;> omega
theorem bytes_mul {x y : Int} (x0 : 0 ≤ x) (x1 : x ≤ 255) (y0 : 0 ≤ y) (y1 : y ≤ 255) : 0 ≤ x * y ∧ x * y ≤ 255 * y ∧ x * y ≤ 255 * x := by
  refine ⟨Int.mul_nonneg x0 y0, Int.mul_le_mul_of_nonneg_right x1 y0, ?_⟩
  rw [Int.mul_comm 255 x]
  exact Int.mul_le_mul_of_nonneg_left y1 x0
theorem byB_bd (a b : Int) : 0 ≤ byB a b ∧ byB a b ≤ 255 := by
  have h1 := clamp_byte a
  have h2 := clamp_byte b
  obtain ⟨p0, p1, p2⟩ := bytes_mul h1.1 h1.2 h2.1 h2.2
  unfold byB
  omega
theorem byB_right (a : Int) {b : Int} (h : 0 ≤ b) : byB a b ≤ b := by
  have h1 := clamp_byte a
  have h2 := clamp_byte b
  have h3 : clamp b 0 255 ≤ b := by unfold clamp; split <;> (try split) <;> omega
  obtain ⟨p0, p1, p2⟩ := bytes_mul h1.1 h1.2 h2.1 h2.2
  unfold byB
  omega
theorem byB_left {a : Int} (b : Int) (h : 0 ≤ a) : byB a b ≤ a := by
  have h1 := clamp_byte a
  have h2 := clamp_byte b
  have h3 : clamp a 0 255 ≤ a := by unfold clamp; split <;> (try split) <;> omega
  obtain ⟨p0, p1, p2⟩ := bytes_mul h1.1 h1.2 h2.1 h2.2
  unfold byB
  omega
theorem byB_mono {a a' : Int} (b : Int) (h : a ≤ a') : byB a b ≤ byB a' b := by
  have h3 : clamp a 0 255 ≤ clamp a' 0 255 := by unfold clamp; (repeat' split) <;> omega
  have h4 := Int.mul_le_mul_of_nonneg_right h3 (clamp_byte b).1
  unfold byB
  omega
theorem byB_full {a : Int} (h0 : 0 ≤ a) (h1 : a ≤ 255) : byB a 255 = a := by
  unfold byB
  rw [clamp_self h0 h1, show clamp 255 0 255 = 255 from rfl]
  omega
theorem byB_none (a : Int) : byB a 0 = 0 := by
  unfold byB
  rw [show clamp 0 0 255 = 0 from rfl, Int.mul_zero]
  rfl
theorem byB_nil (b : Int) : byB 0 b = 0 := by
  unfold byB
  rw [show clamp 0 0 255 = 0 from rfl, Int.zero_mul]
  rfl
theorem strB_bd (c : Int) : 0 ≤ strB c ∧ strB c ≤ 255 := by
  have h := clamp_inB (a := c) (show (0 : Int) ≤ 16 by decide)
  unfold strB
  omega
theorem strB_full : strB 16 = 255 := rfl
theorem keyB_bd (c : Cr) (al co : Int) : 0 ≤ keyB c al co ∧ keyB c al co ≤ 255 := byB_bd _ _
theorem fadeB_ok (p : Cr) (k : Int) : (fadeB p k).Ok :=
  ⟨(byB_bd _ _).1, (byB_bd _ _).2, (byB_bd _ _).1, (byB_bd _ _).2, (byB_bd _ _).1, (byB_bd _ _).2, (byB_bd _ _).1, (byB_bd _ _).2⟩
theorem ofB_ok (c : Cr) (al co : Int) : (ofB c al co).Ok :=
  ⟨(byB_bd _ _).1, (byB_bd _ _).2, (byB_bd _ _).1, (byB_bd _ _).2, (byB_bd _ _).1, (byB_bd _ _).2, (keyB_bd _ _ _).1, (keyB_bd _ _ _).2⟩
theorem over_bd {h l k : Int} (h0 : 0 ≤ h) : 0 ≤ min (h + byB l k) 255 ∧ min (h + byB l k) 255 ≤ 255 := by
  have := byB_bd l k
  omega
theorem overB_ok (l : Cr) {h : Cr} (hh : h.Ok) : (overB l h).Ok :=
  ⟨(over_bd hh.r0).1, (over_bd hh.r0).2, (over_bd hh.g0).1, (over_bd hh.g0).2, (over_bd hh.b0).1, (over_bd hh.b0).2, (over_bd hh.q0).1, (over_bd hh.q0).2⟩
theorem luma_bd {c : Cr} (h : c.Ok) : 0 ≤ luma c ∧ luma c ≤ 255 := by
  obtain ⟨r0, r1, g0, g1, b0, b1, q0, q1⟩ := h
  unfold luma
  omega
theorem matteB_ok {p : Cr} (m : Cr) (how : Int) (h : p.Ok) : (matteB p m how).Ok := by
  unfold matteB
  split
  · exact fadeB_ok _ _
  · split
    · exact fadeB_ok _ _
    · exact h

end M
end Go.Proofs.Ytibgilaeepmheaa
