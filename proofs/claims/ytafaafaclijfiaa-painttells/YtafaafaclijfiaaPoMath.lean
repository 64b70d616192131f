/- Polys of a tape, as plain data: how many places and polys they have, and that their numbers are of 64 bits. No condition but those that the theorems name; no program is named here. -/
import Derived.Test.YtafaafaclijfiaaUMath
import Derived.Test.YtafaafaclijfiaaFMath
namespace Go.Proofs.Ytafaafaclijfiaa
namespace M

/-- Places whose numbers are of 64 bits. -/
def PJ (ps : List Pt) : Prop := ∀ p ∈ ps, In64 p.x ∧ In64 p.y
theorem pi_map (ps : List Pt) : PJ (ps.map plc) := by
  intro p hp
  obtain ⟨q, _, rfl⟩ := List.mem_map.1 hp
  have h1 := place_lo q.x
  have h2 := place_hi q.x
  have h3 := place_lo q.y
  have h4 := place_hi q.y
  refine ⟨⟨?_, ?_⟩, ⟨?_, ?_⟩⟩
  · show _ ≤ place q.x; omega
  · show place q.x ≤ _; omega
  · show _ ≤ place q.y; omega
  · show place q.y ≤ _; omega
theorem pi_shape (ps : List Pt) : PJ (shapeL ps) := by
  unfold shapeL turnL
  split
  · intro p hp
    exact pi_map ps p (List.mem_reverse.1 hp)
  · exact pi_map ps
theorem pi_bars (ls : List Ln) (ends : Bool) : ∀ n, ∀ y ∈ barsN ls ends n, PJ y.2
  | 0, y, hy => by simp [barsN] at hy
  | n + 1, y, hy => by
    rw [barsN_step] at hy
    rcases List.mem_append.1 hy with h1 | h1
    · exact pi_bars ls ends n y h1
    · rw [List.mem_singleton.1 h1]; exact pi_shape _
theorem pi_joint (a b : Ln) : ∀ y ∈ jointL a b, PJ y.2 := by
  intro y hy
  simp [jointL] at hy
  rcases hy with rfl | rfl <;> exact pi_shape _
theorem pi_corn (ls : List Ln) : ∀ n, ∀ y ∈ cornN ls n, PJ y.2
  | 0, y, hy => by simp [cornN] at hy
  | n + 1, y, hy => by
    rw [cornN_step] at hy
    rcases List.mem_append.1 hy with h1 | h1
    · exact pi_corn ls n y h1
    · exact pi_joint _ _ y h1
theorem pi_stroke (c : Bool) (ps : List Pt) (w cap : Int) : ∀ y ∈ strokeL c ps w cap, PJ y.2 := by
  intro y hy
  unfold strokeL at hy
  split at hy
  · simp at hy
  · unfold outL cornL lastL at hy
    rcases List.mem_append.1 hy with h1 | h1
    · exact pi_bars _ _ _ y h1
    · rcases List.mem_append.1 h1 with h2 | h2
      · exact pi_corn _ _ y h2
      · split at h2
        · exact pi_joint _ _ y h2
        · simp at h2
theorem stroke_few (c : Bool) (ps : List Pt) (w cap : Int) (h : ps.length ≤ 30) : (strokeL c ps w cap).length ≤ 90 := by
  unfold strokeL
  split
  · simp
  · rw [outL_length]
    have h1 := linesN_length ps (half w) (sidesN c ps.length)
    have h2 := sidesN_le c ps.length
    unfold linesL
    split <;> omega
theorem flat_few {c : Bool} {ps : List Pt} {n : Nat} (h : ps.length = 3 * n + 1) : (flatL c ps).length ≤ 8 * n + 1 := by
  unfold flatL
  split
  · simp
  · have := (polyN_length ps ((ps.length - 1) / 3)).2
    rw [h] at this ⊢
    have e : (3 * n + 1 - 1) / 3 = n := by omega
    rw [e] at this ⊢
    exact this
theorem pi_pt {ps : List Pt} (h : ∀ i, i < ps.length → In64 (pt ps i).x ∧ In64 (pt ps i).y) : PJ ps := by
  intro p hp
  obtain ⟨i, hi, e⟩ := List.getElem_of_mem hp
  have := h i hi
  unfold pt at this
  rw [List.getD_eq_getElem?_getD, List.getElem?_eq_getElem hi] at this
  simp only [Option.getD_some] at this
  rw [e] at this
  exact this
theorem pi_flat {c : Bool} {ps : List Pt} {n : Nat} (hn : ps.length = 3 * n + 1) (hs : Small ps) : PJ (flatL c ps) := by
  unfold flatL
  split
  · intro p hp; cases hp
  · have hb : ∀ i, i < ps.length → Bx (-131072) 983039 (-131072) 983039 (pt ps i) := fun i hi => hs i hi
    have key : ∀ k, k ≤ n → ∀ i, i < (polyN ps k).length → Bx (-131072) 983039 (-131072) 983039 (pt (polyN ps k) i) := by
      intro k
      induction k with
      | zero =>
        intro _ i hi
        have : i = 0 := by simp [polyN] at hi; omega
        subst this
        exact hb 0 (by omega)
      | succ k ih =>
        intro hk i hi
        unfold polyN at hi ⊢
        rw [List.length_append] at hi
        by_cases hl : i < (polyN ps k).length
        · rw [pt_lefts hl]; exact ih (by omega) i hl
        · rw [pt_right (by omega)]
          obtain ⟨j, hj⟩ : ∃ j, i - (polyN ps k).length = j := ⟨_, rfl⟩
          rw [hj]
          have hj2 : j < (partL (pt ps (3 * k)) (pt ps (3 * k + 1)) (pt ps (3 * k + 2)) (pt ps (3 * k + 3))).length := by omega
          unfold partL at hj2 ⊢
          split
          · rename_i he
            rw [if_pos he] at hj2
            have : j = 0 := by simp at hj2; omega
            subst this
            exact hb (3 * k + 3) (by omega)
          · rename_i he
            rw [if_neg he, bendL_length] at hj2
            exact bendL_box 3 _ _ _ _ (hb _ (by omega)) (hb _ (by omega)) (hb _ (by omega)) (hb _ (by omega)) j hj2
    refine pi_pt fun i hi => ?_
    have := key ((ps.length - 1) / 3) (by omega) i hi
    unfold Bx at this
    unfold In64
    omega

end M
end Go.Proofs.Ytafaafaclijfiaa
