/- Polys of a tape, as plain data: their numbers are small (the outlines' too: a side's way is no longer than one). No condition but those that the theorems name; no program is named here. -/
import Derived.Test.YtafaafaclijfiaaPoMath
import Derived.Test.YtafaafaclijfiaaGM10
namespace Go.Proofs.Ytafaafaclijfiaa
namespace M

/-- A place whose numbers are B at most. -/
def Ab (B : Int) (p : Pt) : Prop := -B ≤ p.x ∧ p.x ≤ B ∧ -B ≤ p.y ∧ p.y ≤ B
def PQ (B : Int) (ps : List Pt) : Prop := ∀ p ∈ ps, Ab B p
/-- Small polys, of few places. -/
def PS (ps : List Pt) : Prop := PQ 2000000 ps ∧ ps.length ≤ 40
theorem PQ.ps {ps : List Pt} (h : PQ 983039 ps) (hl : ps.length ≤ 40) : PS ps := ⟨fun p hp => by
  obtain ⟨a, b, c, d⟩ := h p hp
  exact ⟨by omega, by omega, by omega, by omega⟩, hl⟩
theorem PS.pj {ps : List Pt} (h : PS ps) : PJ ps := fun p hp => by
  obtain ⟨a, b, c, d⟩ := h.1 p hp
  exact ⟨⟨by omega, by omega⟩, ⟨by omega, by omega⟩⟩
theorem pq_pt {B : Int} {ps : List Pt} (h : ∀ i, i < ps.length → Ab B (pt ps i)) : PQ B ps := by
  intro p hp
  obtain ⟨i, hi, e⟩ := List.getElem_of_mem hp
  have := h i hi
  unfold pt at this
  rw [List.getD_eq_getElem?_getD, List.getElem?_eq_getElem hi] at this
  simp only [Option.getD_some] at this
  rw [e] at this
  exact this
theorem pq_at {B : Int} (hB : 0 ≤ B) {ps : List Pt} (h : PQ B ps) (i : Nat) : Ab B (pt ps i) := by
  unfold pt
  rw [List.getD_eq_getElem?_getD]
  by_cases hi : i < ps.length
  · rw [List.getElem?_eq_getElem hi]; exact h _ (List.getElem_mem hi)
  · rw [List.getElem?_eq_none (by omega)]
    exact ⟨show -B ≤ 0 by omega, hB, show -B ≤ 0 by omega, hB⟩
theorem ab_plc {B : Int} (hB : 0 ≤ B) {p : Pt} (h : Ab B p) : Ab B (plc p) := by
  have key : ∀ x : Int, -B ≤ x → x ≤ B → -B ≤ place x ∧ place x ≤ B := by
    intro x h1 h2
    unfold place clamp
    split <;> (try split) <;> omega
  obtain ⟨a, b, c, d⟩ := h
  exact ⟨(key _ a b).1, (key _ a b).2, (key _ c d).1, (key _ c d).2⟩
theorem pq_shape {B : Int} (hB : 0 ≤ B) {ps : List Pt} (h : PQ B ps) : PQ B (shapeL ps) := by
  have hm : PQ B (ps.map plc) := fun p hp => by
    obtain ⟨q, hq, rfl⟩ := List.mem_map.1 hp
    exact ab_plc hB (h q hq)
  unfold shapeL turnL
  split
  · intro p hp
    exact hm p (List.mem_reverse.1 hp)
  · exact hm
theorem pq_flat {c : Bool} {ps : List Pt} {n : Nat} (hn : ps.length = 3 * n + 1) (hs : Small ps) : PQ 983039 (flatL c ps) := by
  unfold flatL
  split
  · intro p hp; cases hp
  · have hb : ∀ i, i < ps.length → Bx (-131072) 983039 (-131072) 983039 (pt ps i) := fun i hi => hs i hi
    have key : ∀ k, k ≤ n → ∀ i, i < (polyN ps k).length → Bx (-131072) 983039 (-131072) 983039 (pt (polyN ps k) i) := by
      intro k
      induction k with
      | zero =>
        intro _ i hi
        have : i = 0 := by simp [polyN] at hi; omega
        subst this
        exact hb 0 (by omega)
      | succ k ih =>
        intro hk i hi
        unfold polyN at hi ⊢
        rw [List.length_append] at hi
        by_cases hl : i < (polyN ps k).length
        · rw [pt_lefts hl]; exact ih (by omega) i hl
        · rw [pt_right (by omega)]
          obtain ⟨j, hj⟩ : ∃ j, i - (polyN ps k).length = j := ⟨_, rfl⟩
          rw [hj]
          have hj2 : j < (partL (pt ps (3 * k)) (pt ps (3 * k + 1)) (pt ps (3 * k + 2)) (pt ps (3 * k + 3))).length := by omega
          unfold partL at hj2 ⊢
          split
          · rename_i he
            rw [if_pos he] at hj2
            have : j = 0 := by simp at hj2; omega
            subst this
            exact hb (3 * k + 3) (by omega)
          · rename_i he
            rw [if_neg he, bendL_length] at hj2
            exact bendL_box 3 _ _ _ _ (hb _ (by omega)) (hb _ (by omega)) (hb _ (by omega)) (hb _ (by omega)) j hj2
    refine pq_pt fun i hi => ?_
    have := key ((ps.length - 1) / 3) (by omega) i hi
    unfold Bx at this
    exact ⟨by omega, by omega, by omega, by omega⟩
theorem hyp_ge {x y : Int} (x1 : -1073741824 ≤ x) (x2 : x ≤ 1073741824) (y1 : -1073741824 ≤ y) (y2 : y ≤ 1073741824) : (-(hyp x y) ≤ x ∧ x ≤ hyp x y) ∧ -(hyp x y) ≤ y ∧ y ≤ hyp x y := by
  obtain ⟨h0, -, h2⟩ := hyp_spec x1 x2 y1 y2
  generalize hyp x y = h at *
  have sq : ∀ z w : Int, z * z + w * w < (h + 1) * (h + 1) → -h ≤ z ∧ z ≤ h := by
    intro z w hz
    have hw : 0 ≤ w * w := by
      rcases Int.le_total 0 w with q | q
      · exact Int.mul_nonneg q q
      · have := Int.mul_nonneg (show 0 ≤ -w by omega) (show 0 ≤ -w by omega); rwa [Int.neg_mul_neg] at this
    constructor
    · apply Classical.byContradiction
      intro hn
      have := Int.mul_le_mul (show h + 1 ≤ -z by omega) (show h + 1 ≤ -z by omega) (by omega) (by omega)
      rw [Int.neg_mul_neg] at this
      omega
    · apply Classical.byContradiction
      intro hn
      have := Int.mul_le_mul (show h + 1 ≤ z by omega) (show h + 1 ≤ z by omega) (by omega) (by omega)
      omega
  exact ⟨sq x y h2, sq y x (by omega)⟩
theorem dv_le {d l : Int} (h0 : 0 < l) (h1 : l ≤ 1099511627776) (d0 : -l ≤ d) (d1 : d ≤ l) : -65536 ≤ dv d l ∧ dv d l ≤ 65536 := by
  have hl : hold l = l := hold_in (by omega) h1
  have hd : hold d = d := hold_in (by omega) (by omega)
  unfold dv
  rw [hl, hd, if_neg (by omega)]
  unfold flo
  rw [if_pos h0]
  have a1 : d * 65536 / l ≤ 65536 := Int.ediv_le_of_le_mul h0 (by omega)
  have a2 : -65536 ≤ d * 65536 / l := Int.le_ediv_of_mul_le h0 (by omega)
  rw [hold_in (by omega) (by omega)]
  exact ⟨a2, a1⟩
theorem mul_le_h {a h : Int} (a0 : -65536 ≤ a) (a1 : a ≤ 65536) (h0 : 0 ≤ h) (h1 : h ≤ 131072) : -h ≤ mul a h ∧ mul a h ≤ h := by
  have e1 : hold a = a := hold_in (by omega) (by omega)
  have e2 : hold h = h := hold_in (by omega) (by omega)
  unfold mul
  rw [e1, e2]
  have m1 : a * h ≤ 65536 * h := Int.mul_le_mul_of_nonneg_right a1 h0
  have m2 : -65536 * h ≤ a * h := Int.mul_le_mul_of_nonneg_right a0 h0
  rw [hold_in (by omega) (by omega)]
  omega
/-- A line of small numbers. -/
def LnSm (l : Ln) : Prop := Ab 983039 l.a ∧ Ab 983039 l.b ∧ Ab 131072 l.way ∧ Ab 131072 l.off
theorem lnOf_sm {ps : List Pt} {h : Int} {i : Nat} (hp : PQ 983039 ps) (h0 : 0 ≤ h) (h1 : h ≤ 131072) (hs : 0 < sideL ps i) : LnSm (lnOf ps h i) := by
  have ha : Ab 983039 (sa ps i) := ab_plc (by decide) (pq_at (by decide) hp _)
  have hb : Ab 983039 (sb ps i) := ab_plc (by decide) (pq_at (by decide) hp _)
  obtain ⟨a1, a2, a3, a4⟩ := ha
  obtain ⟨b1, b2, b3, b4⟩ := hb
  obtain ⟨⟨x1, x2⟩, y1, y2⟩ := hyp_ge (x := (sb ps i).x - (sa ps i).x) (y := (sb ps i).y - (sa ps i).y) (by omega) (by omega) (by omega) (by omega)
  have hh := longP_hi (sa ps i) (sb ps i)
  have hl : sideL ps i ≤ 1099511627776 := by unfold sideL; omega
  obtain ⟨p1, p2⟩ := dv_le (d := (sb ps i).x - (sa ps i).x) hs hl x1 x2
  obtain ⟨q1, q2⟩ := dv_le (d := (sb ps i).y - (sa ps i).y) hs hl y1 y2
  have mx := mul_le_h p1 p2 h0 h1
  have my := mul_le_h q1 q2 h0 h1
  have mz := mul_le_h (a := -(dv ((sb ps i).y - (sa ps i).y) (sideL ps i))) (by omega) (by omega) h0 h1
  refine ⟨⟨a1, a2, a3, a4⟩, ⟨b1, b2, b3, b4⟩, ⟨?_, ?_, ?_, ?_⟩, ⟨?_, ?_, ?_, ?_⟩⟩
  · show -131072 ≤ mul _ h; omega
  · show mul _ h ≤ 131072; omega
  · show -131072 ≤ mul _ h; omega
  · show mul _ h ≤ 131072; omega
  · show -131072 ≤ mul _ h; omega
  · show mul _ h ≤ 131072; omega
  · show -131072 ≤ mul _ h; omega
  · show mul _ h ≤ 131072; omega
theorem linesN_sm {ps : List Pt} {h : Int} (hp : PQ 983039 ps) (h0 : 0 ≤ h) (h1 : h ≤ 131072) : ∀ n, ∀ l ∈ linesN ps h n, LnSm l
  | 0, l, hl => by simp [linesN] at hl
  | n + 1, l, hl => by
    by_cases hs : 0 < sideL ps n
    · rw [linesN_yes hs] at hl
      rcases List.mem_append.1 hl with h2 | h2
      · exact linesN_sm hp h0 h1 n l h2
      · rw [List.mem_singleton.1 h2]; exact lnOf_sm hp h0 h1 hs
    · rw [linesN_no hs] at hl; exact linesN_sm hp h0 h1 n l hl
theorem lnSm_default : LnSm default := by
  have z : ∀ B : Int, 0 ≤ B → Ab B default := fun B hB => ⟨show -B ≤ 0 by omega, hB, show -B ≤ 0 by omega, hB⟩
  exact ⟨z _ (by decide), z _ (by decide), z _ (by decide), z _ (by decide)⟩
theorem ln_sm {ls : List Ln} (h : ∀ l ∈ ls, LnSm l) (i : Nat) : LnSm (ln ls i) := by
  by_cases hi : i < ls.length
  · exact h _ (ln_mem hi)
  · unfold ln
    rw [List.getD_eq_getElem?_getD, List.getElem?_eq_none (by omega)]
    exact lnSm_default
theorem ab_ad {B C D : Int} {p q : Pt} {k : Int} (hp : Ab B p) (hq : Ab C q) (hk : k = 1 ∨ k = -1) (hD : B + C ≤ D) : Ab D (ad p q k) := by
  obtain ⟨a1, a2, a3, a4⟩ := hp
  obtain ⟨b1, b2, b3, b4⟩ := hq
  rcases hk with rfl | rfl
  · exact ⟨show -D ≤ p.x + 1 * q.x by omega, show p.x + 1 * q.x ≤ D by omega, show -D ≤ p.y + 1 * q.y by omega, show p.y + 1 * q.y ≤ D by omega⟩
  · exact ⟨show -D ≤ p.x + -1 * q.x by omega, show p.x + -1 * q.x ≤ D by omega, show -D ≤ p.y + -1 * q.y by omega, show p.y + -1 * q.y ≤ D by omega⟩
theorem ab_more {B D : Int} {p : Pt} (hp : Ab B p) (h : B ≤ D) : Ab D p := by
  obtain ⟨a1, a2, a3, a4⟩ := hp
  exact ⟨by omega, by omega, by omega, by omega⟩
theorem sm_bar {l : Ln} (h : LnSm l) (e f : Bool) : PS (barP l e f).2 := by
  obtain ⟨h1, h2, h3, h4⟩ := h
  have f1 : Ab 1114111 (frP l e) := by
    unfold frP
    split
    · exact ab_ad h1 h3 (Or.inr rfl) (by decide)
    · exact ab_more h1 (by decide)
  have f2 : Ab 1114111 (toP l f) := by
    unfold toP
    split
    · exact ab_ad h2 h3 (Or.inl rfl) (by decide)
    · exact ab_more h2 (by decide)
  refine ⟨pq_shape (by decide) fun p hp => ?_, by unfold barP; rw [shapeL_length]; simp⟩
  simp only [List.mem_cons, List.not_mem_nil, or_false] at hp
  rcases hp with rfl | rfl | rfl | rfl
  · exact ab_ad f1 h4 (Or.inl rfl) (by decide)
  · exact ab_ad f2 h4 (Or.inl rfl) (by decide)
  · exact ab_ad f2 h4 (Or.inr rfl) (by decide)
  · exact ab_ad f1 h4 (Or.inr rfl) (by decide)
theorem sm_joint {a b : Ln} (ha : LnSm a) (hb : LnSm b) : ∀ y ∈ jointL a b, PS y.2 := by
  have key : ∀ k : Int, k = 1 ∨ k = -1 → PS (jointA a b k) := by
    intro k hk
    refine ⟨pq_shape (by decide) fun p hp => ?_, by unfold jointA; rw [shapeL_length]; simp⟩
    simp only [List.mem_cons, List.not_mem_nil, or_false] at hp
    rcases hp with rfl | rfl | rfl
    · exact ab_more hb.1 (by decide)
    · exact ab_ad hb.1 ha.2.2.2 hk (by decide)
    · exact ab_ad hb.1 hb.2.2.2 hk (by decide)
  intro y hy
  simp [jointL] at hy
  rcases hy with rfl | rfl
  · exact key 1 (Or.inl rfl)
  · exact key (-1) (Or.inr rfl)
theorem sm_bars {ls : List Ln} (h : ∀ l ∈ ls, LnSm l) (ends : Bool) : ∀ n, ∀ y ∈ barsN ls ends n, PS y.2
  | 0, y, hy => by simp [barsN] at hy
  | n + 1, y, hy => by
    rw [barsN_step] at hy
    rcases List.mem_append.1 hy with h1 | h1
    · exact sm_bars h ends n y h1
    · rw [List.mem_singleton.1 h1]; exact sm_bar (ln_sm h _) _ _
theorem sm_corn {ls : List Ln} (h : ∀ l ∈ ls, LnSm l) : ∀ n, ∀ y ∈ cornN ls n, PS y.2
  | 0, y, hy => by simp [cornN] at hy
  | n + 1, y, hy => by
    rw [cornN_step] at hy
    rcases List.mem_append.1 hy with h1 | h1
    · exact sm_corn h n y h1
    · exact sm_joint (ln_sm h _) (ln_sm h _) y h1
theorem sm_stroke (c : Bool) {ps : List Pt} {w : Int} (cap : Int) (hp : PQ 983039 ps) (hw : w ≤ 262144) : ∀ y ∈ strokeL c ps w cap, PS y.2 := by
  intro y hy
  have hh : 0 ≤ half w ∧ half w ≤ 131072 := by unfold half clamp; split <;> (try split) <;> omega
  have hl : ∀ l ∈ linesL c ps (half w), LnSm l := linesN_sm hp hh.1 hh.2 _
  unfold strokeL at hy
  split at hy
  · simp at hy
  · unfold outL cornL lastL at hy
    rcases List.mem_append.1 hy with h1 | h1
    · exact sm_bars hl _ _ y h1
    · rcases List.mem_append.1 h1 with h2 | h2
      · exact sm_corn hl _ y h2
      · split at h2
        · exact sm_joint (ln_sm hl _) (ln_sm hl _) y h2
        · simp at h2

end M
end Go.Proofs.Ytafaafaclijfiaa
