/- What is opaque hides all, what is nothing hides nothing, what is faded is no more than it was: plain arithmetic, no program is named here. -/
import Derived.Test.YtibgilaeepmheaaBlMath
namespace Go.Proofs.Ytibgilaeepmheaa
namespace M

theorem ofB_full {c : Cr} (h : c.Ok) : ofB ⟨c.r, c.g, c.b, 255⟩ 255 16 = ⟨c.r, c.g, c.b, 255⟩ := by
  have e : keyB ⟨c.r, c.g, c.b, 255⟩ 255 16 = 255 := rfl
  unfold ofB
  rw [e]
  show (⟨byB c.r 255, byB c.g 255, byB c.b 255, 255⟩ : Cr) = _
  rw [byB_full h.r0 h.r1, byB_full h.g0 h.g1, byB_full h.b0 h.b1]
theorem min_full {x : Int} (h : x ≤ 255) : min (x + 0) 255 = x := by omega
theorem min_nil {x : Int} (h : x ≤ 255) : min (0 + x) 255 = x := by omega
theorem overB_full (l : Cr) {r g b : Int} (h : (⟨r, g, b, 255⟩ : Cr).Ok) : overB l ⟨r, g, b, 255⟩ = ⟨r, g, b, 255⟩ := by
  unfold overB
  show (⟨min (r + byB l.r 0) 255, min (g + byB l.g 0) 255, min (b + byB l.b 0) 255, min (255 + byB l.q 0) 255⟩ : Cr) = _
  rw [byB_none, byB_none, byB_none, byB_none, min_full h.r1, min_full h.g1, min_full h.b1]
  rfl
theorem overB_low {h : Cr} (hh : h.Ok) : overB ⟨0, 0, 0, 0⟩ h = h := by
  unfold overB
  show (⟨min (h.r + byB 0 (255 - h.q)) 255, min (h.g + byB 0 (255 - h.q)) 255, min (h.b + byB 0 (255 - h.q)) 255, min (h.q + byB 0 (255 - h.q)) 255⟩ : Cr) = _
  rw [byB_nil, min_full hh.r1, min_full hh.g1, min_full hh.b1, min_full hh.q1]
theorem overB_high {l : Cr} (hl : l.Ok) : overB l ⟨0, 0, 0, 0⟩ = l := by
  unfold overB
  show (⟨min (0 + byB l.r 255) 255, min (0 + byB l.g 255) 255, min (0 + byB l.b 255) 255, min (0 + byB l.q 255) 255⟩ : Cr) = _
  rw [byB_full hl.r0 hl.r1, byB_full hl.g0 hl.g1, byB_full hl.b0 hl.b1, byB_full hl.q0 hl.q1, min_nil hl.r1, min_nil hl.g1, min_nil hl.b1, min_nil hl.q1]
theorem fadeB_full {p : Cr} (h : p.Ok) : fadeB p 255 = p := by
  unfold fadeB
  rw [byB_full h.r0 h.r1, byB_full h.g0 h.g1, byB_full h.b0 h.b1, byB_full h.q0 h.q1]
/-- No colour above the alpha. -/
structure Cr.Pre (c : Cr) : Prop where
  r : c.r ≤ c.q
  g : c.g ≤ c.q
  b : c.b ≤ c.q
theorem ofB_pre (c : Cr) (al co : Int) : (ofB c al co).Pre := ⟨byB_right _ (keyB_bd _ _ _).1, byB_right _ (keyB_bd _ _ _).1, byB_right _ (keyB_bd _ _ _).1⟩
theorem over_le {h h' l l' k : Int} (a : h ≤ h') (b : l ≤ l') : min (h + byB l k) 255 ≤ min (h' + byB l' k) 255 := by
  have := byB_mono k b
  omega
theorem overB_pre {l h : Cr} (hl : l.Pre) (hh : h.Pre) : (overB l h).Pre := ⟨over_le hh.r hl.r, over_le hh.g hl.g, over_le hh.b hl.b⟩

end M
end Go.Proofs.Ytibgilaeepmheaa
