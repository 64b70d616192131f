/- The plain arithmetic of the document's fourteenth chapter (boxes of whole pixels, the least one round places, tiles), on Lean's own integers and lists: no condition but those that the theorems name; no program is named here. -/
import Derived.Test.YtopepgifhnfbiaaPMath
namespace Go.Proofs.Ytopepgifhnfbiaa
namespace M

/-- A box. -/
structure Bo where
  x0 : Int
  y0 : Int
  x1 : Int
  y1 : Int
deriving DecidableEq
def zeroB : Bo := ⟨0, 0, 0, 0⟩
def emptyB (b : Bo) : Bool := decide (b.x1 ≤ b.x0) || decide (b.y1 ≤ b.y0)
theorem emptyB_yes {b : Bo} (h : b.x1 ≤ b.x0 ∨ b.y1 ≤ b.y0) : emptyB b = true := by unfold emptyB; simpa using h
theorem emptyB_no {b : Bo} (h : b.x0 < b.x1) (h2 : b.y0 < b.y1) : emptyB b = false := by unfold emptyB; simp; omega
theorem emptyB_iff {b : Bo} : emptyB b = true ↔ b.x1 ≤ b.x0 ∨ b.y1 ≤ b.y0 := by unfold emptyB; simp
theorem emptyB_not {b : Bo} (h : emptyB b = false) : b.x0 < b.x1 ∧ b.y0 < b.y1 := by unfold emptyB at h; simp at h; omega
def orZ (b : Bo) : Bo := if emptyB b = true then zeroB else b
theorem orZ_yes {b : Bo} (h : emptyB b = true) : orZ b = zeroB := if_pos h
theorem orZ_no {b : Bo} (h : emptyB b = false) : orZ b = b := if_neg (by rw [h]; simp)
def minI (a b : Int) : Int := if b < a then b else a
def maxI (a b : Int) : Int := if a < b then b else a
theorem minI_le (a b : Int) : minI a b ≤ a ∧ minI a b ≤ b ∧ (minI a b = a ∨ minI a b = b) := by unfold minI; split <;> omega
theorem le_maxI (a b : Int) : a ≤ maxI a b ∧ b ≤ maxI a b ∧ (maxI a b = a ∨ maxI a b = b) := by unfold maxI; split <;> omega
theorem minI_eq {a b : Int} (h : a ≤ b) : minI a b = a := if_neg (by omega)
theorem maxI_eq {a b : Int} (h : b ≤ a) : maxI a b = a := if_neg (by omega)
theorem minI_comm (a b : Int) : minI a b = minI b a := by have := minI_le a b; have := minI_le b a; omega
theorem maxI_comm (a b : Int) : maxI a b = maxI b a := by have := le_maxI a b; have := le_maxI b a; omega
/-- The least box that has both. -/
def uniB (a b : Bo) : Bo := ⟨minI a.x0 b.x0, minI a.y0 b.y0, maxI a.x1 b.x1, maxI a.y1 b.y1⟩
def capB (a b : Bo) : Bo := ⟨maxI a.x0 b.x0, maxI a.y0 b.y0, minI a.x1 b.x1, minI a.y1 b.y1⟩
def joinB (a b : Bo) : Bo := if emptyB a = true then orZ b else if emptyB b = true then a else uniB a b
def meetB (a b : Bo) : Bo := orZ (capB a b)
def hasB (b : Bo) (x y : Int) : Bool := decide (b.x0 ≤ x) && (decide (x < b.x1) && (decide (b.y0 ≤ y) && decide (y < b.y1)))
theorem hasB_iff {b : Bo} {x y : Int} : hasB b x y = true ↔ b.x0 ≤ x ∧ x < b.x1 ∧ b.y0 ≤ y ∧ y < b.y1 := by unfold hasB; simp
theorem cap_empty {a b : Bo} (h : emptyB a = true ∨ emptyB b = true) : emptyB (capB a b) = true := by
  have h1 := le_maxI a.x0 b.x0
  have h2 := le_maxI a.y0 b.y0
  have h3 := minI_le a.x1 b.x1
  have h4 := minI_le a.y1 b.y1
  rw [emptyB_iff, emptyB_iff] at h
  rw [emptyB_iff]
  simp only [capB]
  omega
theorem joinB_comm (a b : Bo) : joinB a b = joinB b a := by
  unfold joinB
  cases ha : emptyB a <;> cases hb : emptyB b
  · simp only [Bool.false_eq_true, if_false]; unfold uniB; rw [minI_comm, minI_comm a.y0, maxI_comm, maxI_comm a.y1]
  · simp [orZ_no ha]
  · simp [orZ_no hb]
  · simp [orZ_yes ha, orZ_yes hb]
theorem meetB_comm (a b : Bo) : meetB a b = meetB b a := by
  unfold meetB capB
  rw [minI_comm, minI_comm a.y1, maxI_comm, maxI_comm a.y0]
theorem meet_has (a b : Bo) (x y : Int) : hasB (meetB a b) x y = (hasB a x y && hasB b x y) := by
  rw [Bool.eq_iff_iff, Bool.and_eq_true, hasB_iff, hasB_iff, hasB_iff]
  have h1 := le_maxI a.x0 b.x0
  have h2 := le_maxI a.y0 b.y0
  have h3 := minI_le a.x1 b.x1
  have h4 := minI_le a.y1 b.y1
  unfold meetB
  cases he : emptyB (capB a b)
  · rw [orZ_no he]; simp only [capB]; omega
  · rw [orZ_yes he]
    rw [emptyB_iff] at he
    simp only [capB, zeroB] at *
    omega
theorem join_has (a b : Bo) (x y : Int) (h : hasB a x y = true ∨ hasB b x y = true) : hasB (joinB a b) x y = true := by
  have h1 := minI_le a.x0 b.x0
  have h2 := minI_le a.y0 b.y0
  have h3 := le_maxI a.x1 b.x1
  have h4 := le_maxI a.y1 b.y1
  rw [hasB_iff, hasB_iff] at h
  rw [hasB_iff]
  unfold joinB
  cases ha : emptyB a <;> cases hb : emptyB b
  · simp only [Bool.false_eq_true, if_false, uniB]; omega
  · rw [emptyB_iff] at hb
    simp only [Bool.false_eq_true, if_false, if_true]; omega
  · rw [emptyB_iff] at ha
    simp only [if_true, orZ_no hb]; omega
  · rw [emptyB_iff] at ha hb
    omega

/-- A number counted in pixels, rounded down; rounded up. -/
def dn (a : Int) : Int := a / 65536
def up (a : Int) : Int := if a % 65536 = 0 then a / 65536 else a / 65536 + 1
theorem dn_mono {a b : Int} (h : a ≤ b) : dn a ≤ dn b := by unfold dn; omega
theorem up_mono {a b : Int} (h : a ≤ b) : up a ≤ up b := by unfold up; split <;> split <;> omega
theorem dn_minI (a b : Int) : dn (minI a b) = minI (dn a) (dn b) := by unfold minI dn; split <;> split <;> omega
theorem up_maxI (a b : Int) : up (maxI a b) = maxI (up a) (up b) := by
  by_cases h : a < b
  · have := up_mono (Int.le_of_lt h)
    rw [maxI, if_pos h, maxI]; split <;> omega
  · have := up_mono (show b ≤ a by omega)
    rw [maxI, if_neg h, maxI, if_neg (by omega)]
theorem dn_bd {a : Int} (h : -9223372036854775808 ≤ a) (h2 : a ≤ 9223372036854775807) : -140737488355328 ≤ dn a ∧ dn a ≤ 140737488355327 := by unfold dn; omega
theorem up_bd {a : Int} (h : -9223372036854775808 ≤ a) (h2 : a ≤ 9223372036854775807) : -140737488355328 ≤ up a ∧ up a ≤ 140737488355328 := by unfold up; split <;> omega
/-- The least and the greatest numbers of places, one by one; none of none. -/
def ends1 (e : Option (Pt × Pt)) (p : Pt) : Option (Pt × Pt) :=
  match e with
  | none => some (p, p)
  | some (a, b) => some (⟨minI a.x p.x, minI a.y p.y⟩, ⟨maxI b.x p.x, maxI b.y p.y⟩)
def endsP (ps : List Pt) : Option (Pt × Pt) := ps.foldl ends1 none
theorem endsP_nil : endsP [] = none := rfl
theorem endsP_snoc (ps : List Pt) (p : Pt) : endsP (ps ++ [p]) = ends1 (endsP ps) p := by simp [endsP]
def boxE (e : Option (Pt × Pt)) : Bo :=
  match e with
  | none => zeroB
  | some (a, b) => ⟨dn a.x, dn a.y, up b.x, up b.y⟩
def pixB (p : Pt) : Bo := ⟨dn p.x, dn p.y, up p.x, up p.y⟩
/-- The least box that has all these places. -/
def boxP (ps : List Pt) : Bo := boxE (endsP ps)
theorem boxE_snoc (e : Option (Pt × Pt)) (p : Pt) : boxE (ends1 e p) = if e = none then pixB p else uniB (boxE e) (pixB p) := by
  rcases e with _ | ⟨a, b⟩
  · rfl
  · rw [if_neg (by simp)]
    simp only [ends1, boxE, uniB, pixB, dn_minI, up_maxI]
theorem endsP_none {ps : List Pt} : endsP ps = none ↔ ps = [] := by
  constructor
  · intro h
    rcases List.eq_nil_or_concat ps with e | ⟨qs, p, e⟩
    · exact e
    · subst e
      rw [List.concat_eq_append, endsP_snoc] at h
      unfold ends1 at h
      split at h <;> cases h
  · rintro rfl; rfl
theorem uniB_self (a : Bo) : uniB a a = a := by
  cases a
  simp [uniB, minI, maxI]
theorem boxP_snoc (ps : List Pt) (p : Pt) : boxP (ps ++ [p]) = uniB (if ps = [] then pixB p else boxP ps) (pixB p) := by
  unfold boxP
  rw [endsP_snoc, boxE_snoc]
  by_cases h : ps = []
  · rw [if_pos (endsP_none.2 h), if_pos h, uniB_self]
  · rw [if_neg (fun e => h (endsP_none.1 e)), if_neg h]
theorem ends_all (ps : List Pt) : ∀ a b, endsP ps = some (a, b) → (∀ p ∈ ps, a.x ≤ p.x ∧ a.y ≤ p.y ∧ p.x ≤ b.x ∧ p.y ≤ b.y) ∧ (∃ p ∈ ps, p.x = a.x) ∧ (∃ p ∈ ps, p.y = a.y) ∧ (∃ p ∈ ps, p.x = b.x) ∧ (∃ p ∈ ps, p.y = b.y) := by
  suffices H : ∀ n (ps : List Pt), ps.length = n → ∀ a b, endsP ps = some (a, b) → (∀ p ∈ ps, a.x ≤ p.x ∧ a.y ≤ p.y ∧ p.x ≤ b.x ∧ p.y ≤ b.y) ∧ (∃ p ∈ ps, p.x = a.x) ∧ (∃ p ∈ ps, p.y = a.y) ∧ (∃ p ∈ ps, p.x = b.x) ∧ (∃ p ∈ ps, p.y = b.y) from H _ ps rfl
  intro n
  induction n with
  | zero =>
    intro ps hl a b h
    obtain rfl := List.eq_nil_of_length_eq_zero hl
    simp [endsP] at h
  | succ n ih =>
    intro ps hl a b h
    rcases List.eq_nil_or_concat ps with e | ⟨qs, q, e⟩
    · subst e; simp at hl
    · rw [List.concat_eq_append] at e
      subst e
      rw [endsP_snoc] at h
      rcases hq : endsP qs with _ | ⟨c, d⟩
      · rw [hq] at h
        obtain rfl := endsP_none.1 hq
        simp only [ends1, Option.some.injEq, Prod.mk.injEq] at h
        obtain ⟨rfl, rfl⟩ := h
        simp
      · rw [hq] at h
        simp only [ends1, Option.some.injEq, Prod.mk.injEq] at h
        obtain ⟨rfl, rfl⟩ := h
        obtain ⟨h0, ⟨p1, m1, e1⟩, ⟨p2, m2, e2⟩, ⟨p3, m3, e3⟩, ⟨p4, m4, e4⟩⟩ := ih qs (by simp at hl; omega) c d hq
        have g1 := minI_le c.x q.x
        have g2 := minI_le c.y q.y
        have g3 := le_maxI d.x q.x
        have g4 := le_maxI d.y q.y
        refine ⟨fun p hp => ?_, ?_, ?_, ?_, ?_⟩
        · simp only
          rcases List.mem_append.1 hp with hp | hp
          · have := h0 p hp; omega
          · obtain rfl : p = q := by simpa using hp
            omega
        · rcases g1.2.2 with g | g
          · exact ⟨p1, List.mem_append_left _ m1, by simp only; omega⟩
          · exact ⟨q, by simp, by simp only; omega⟩
        · rcases g2.2.2 with g | g
          · exact ⟨p2, List.mem_append_left _ m2, by simp only; omega⟩
          · exact ⟨q, by simp, by simp only; omega⟩
        · rcases g3.2.2 with g | g
          · exact ⟨p3, List.mem_append_left _ m3, by simp only; omega⟩
          · exact ⟨q, by simp, by simp only; omega⟩
        · rcases g4.2.2 with g | g
          · exact ⟨p4, List.mem_append_left _ m4, by simp only; omega⟩
          · exact ⟨q, by simp, by simp only; omega⟩
/-- A part's box lies in the box of all. -/
theorem join_part {ps qs : List Pt} (hs : ∀ p ∈ qs, p ∈ ps) (h : emptyB (boxP qs) = false) : joinB (boxP ps) (boxP qs) = boxP ps := by
  rcases hq : endsP qs with _ | ⟨c, d⟩
  · unfold boxP at h; rw [hq] at h; simp [boxE, emptyB, zeroB] at h
  · obtain ⟨_, ⟨p1, m1, e1⟩, ⟨p2, m2, e2⟩, ⟨p3, m3, e3⟩, ⟨p4, m4, e4⟩⟩ := ends_all qs c d hq
    rcases hp : endsP ps with _ | ⟨a, b⟩
    · have := endsP_none.1 hp
      subst this
      have := hs p1 m1
      cases this
    · obtain ⟨h0, _⟩ := ends_all ps a b hp
      have k1 := dn_mono (e1 ▸ (h0 p1 (hs p1 m1)).1)
      have k2 := dn_mono (e2 ▸ (h0 p2 (hs p2 m2)).2.1)
      have k3 := up_mono (e3 ▸ (h0 p3 (hs p3 m3)).2.2.1)
      have k4 := up_mono (e4 ▸ (h0 p4 (hs p4 m4)).2.2.2)
      unfold boxP at h ⊢
      rw [hq] at h ⊢
      rw [hp]
      have g := emptyB_not h
      simp only [boxE] at g
      unfold joinB
      rw [if_neg (by rw [emptyB_iff]; simp only [boxE]; omega), if_neg (by rw [h]; simp)]
      simp only [uniB, boxE]
      rw [minI_eq k1, minI_eq k2, maxI_eq k3, maxI_eq k4]

end M
end Go.Proofs.Ytopepgifhnfbiaa
