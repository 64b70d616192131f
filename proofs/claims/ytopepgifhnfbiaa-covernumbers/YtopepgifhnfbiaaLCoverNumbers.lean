/- CoverNumbers of the statements: whatever the numbers are, the call returns true and each argument reads as it did; no condition. -/
import Derived.Test.YtopepgifhnfbiaaPMath
import Derived.Test.YtopepgifhnfbiaaPB
import Derived.Test.YtopepgifhnfbiaaMake
import Derived.Test.YtopepgifhnfbiaaQt
import Derived.Deep.DeepCutAuto
import Derived.BigRegion
import Derived.Test.YtopepgifhnfbiaaK4
import Derived.Test.YtopepgifhnfbiaaPO2
import Derived.Test.YtopepgifhnfbiaaTB7
import Derived.Test.YtopepgifhnfbiaaUMath
import Derived.Test.YtopepgifhnfbiaaY8
import Derived.Test.YtopepgifhnfbiaaTwoP
import Derived.Test.YtopepgifhnfbiaaA
import Derived.Test.YtopepgifhnfbiaaNMath
import Derived.Test.YtopepgifhnfbiaaTail
import Derived.Test.YtopepgifhnfbiaaApp
import Derived.Deep.AppendLies
import Derived.Test.YtopepgifhnfbiaaT5
import Derived.Test.YtopepgifhnfbiaaN2
import Derived.Test.YtopepgifhnfbiaaTK5
import Derived.Test.YtopepgifhnfbiaaRows
import Derived.WalkKit
import Derived.ProofKit
import Derived.OpenShut
namespace Go.Proofs.Ytopepgifhnfbiaa
namespace M

/-- A box. -/
structure Bo where
  x0 : Int
  y0 : Int
  x1 : Int
  y1 : Int
deriving DecidableEq
def zeroB : Bo := ⟨0, 0, 0, 0⟩
def emptyB (b : Bo) : Bool := decide (b.x1 ≤ b.x0) || decide (b.y1 ≤ b.y0)
theorem emptyB_yes {b : Bo} (h : b.x1 ≤ b.x0 ∨ b.y1 ≤ b.y0) : emptyB b = true := by unfold emptyB; simpa using h
theorem emptyB_no {b : Bo} (h : b.x0 < b.x1) (h2 : b.y0 < b.y1) : emptyB b = false := by unfold emptyB; simp; omega
theorem emptyB_iff {b : Bo} : emptyB b = true ↔ b.x1 ≤ b.x0 ∨ b.y1 ≤ b.y0 := by unfold emptyB; simp
theorem emptyB_not {b : Bo} (h : emptyB b = false) : b.x0 < b.x1 ∧ b.y0 < b.y1 := by unfold emptyB at h; simp at h; omega
def orZ (b : Bo) : Bo := if emptyB b = true then zeroB else b
theorem orZ_yes {b : Bo} (h : emptyB b = true) : orZ b = zeroB := if_pos h
theorem orZ_no {b : Bo} (h : emptyB b = false) : orZ b = b := if_neg (by rw [h]; simp)
def minI (a b : Int) : Int := if b < a then b else a
def maxI (a b : Int) : Int := if a < b then b else a
theorem minI_le (a b : Int) : minI a b ≤ a ∧ minI a b ≤ b ∧ (minI a b = a ∨ minI a b = b) := by unfold minI; split <;> omega
theorem le_maxI (a b : Int) : a ≤ maxI a b ∧ b ≤ maxI a b ∧ (maxI a b = a ∨ maxI a b = b) := by unfold maxI; split <;> omega
theorem minI_eq {a b : Int} (h : a ≤ b) : minI a b = a := if_neg (by omega)
theorem maxI_eq {a b : Int} (h : b ≤ a) : maxI a b = a := if_neg (by omega)
theorem minI_comm (a b : Int) : minI a b = minI b a := by have := minI_le a b; have := minI_le b a; omega
theorem maxI_comm (a b : Int) : maxI a b = maxI b a := by have := le_maxI a b; have := le_maxI b a; omega
/-- The least box that has both. -/
def uniB (a b : Bo) : Bo := ⟨minI a.x0 b.x0, minI a.y0 b.y0, maxI a.x1 b.x1, maxI a.y1 b.y1⟩
def capB (a b : Bo) : Bo := ⟨maxI a.x0 b.x0, maxI a.y0 b.y0, minI a.x1 b.x1, minI a.y1 b.y1⟩
def joinB (a b : Bo) : Bo := if emptyB a = true then orZ b else if emptyB b = true then a else uniB a b
def meetB (a b : Bo) : Bo := orZ (capB a b)
def hasB (b : Bo) (x y : Int) : Bool := decide (b.x0 ≤ x) && (decide (x < b.x1) && (decide (b.y0 ≤ y) && decide (y < b.y1)))
theorem hasB_iff {b : Bo} {x y : Int} : hasB b x y = true ↔ b.x0 ≤ x ∧ x < b.x1 ∧ b.y0 ≤ y ∧ y < b.y1 := by unfold hasB; simp
theorem cap_empty {a b : Bo} (h : emptyB a = true ∨ emptyB b = true) : emptyB (capB a b) = true := by
  have h1 := le_maxI a.x0 b.x0
  have h2 := le_maxI a.y0 b.y0
  have h3 := minI_le a.x1 b.x1
  have h4 := minI_le a.y1 b.y1
  rw [emptyB_iff, emptyB_iff] at h
  rw [emptyB_iff]
  simp only [capB]
  omega
theorem joinB_comm (a b : Bo) : joinB a b = joinB b a := by
  unfold joinB
  cases ha : emptyB a <;> cases hb : emptyB b
  · simp only [Bool.false_eq_true, if_false]; unfold uniB; rw [minI_comm, minI_comm a.y0, maxI_comm, maxI_comm a.y1]
  · simp [orZ_no ha]
  · simp [orZ_no hb]
  · simp [orZ_yes ha, orZ_yes hb]
theorem meetB_comm (a b : Bo) : meetB a b = meetB b a := by
  unfold meetB capB
  rw [minI_comm, minI_comm a.y1, maxI_comm, maxI_comm a.y0]
theorem meet_has (a b : Bo) (x y : Int) : hasB (meetB a b) x y = (hasB a x y && hasB b x y) := by
  rw [Bool.eq_iff_iff, Bool.and_eq_true, hasB_iff, hasB_iff, hasB_iff]
  have h1 := le_maxI a.x0 b.x0
  have h2 := le_maxI a.y0 b.y0
  have h3 := minI_le a.x1 b.x1
  have h4 := minI_le a.y1 b.y1
  unfold meetB
  cases he : emptyB (capB a b)
  · rw [orZ_no he]; simp only [capB]; omega
  · rw [orZ_yes he]
    rw [emptyB_iff] at he
    simp only [capB, zeroB] at *
    omega
theorem join_has (a b : Bo) (x y : Int) (h : hasB a x y = true ∨ hasB b x y = true) : hasB (joinB a b) x y = true := by
  have h1 := minI_le a.x0 b.x0
  have h2 := minI_le a.y0 b.y0
  have h3 := le_maxI a.x1 b.x1
  have h4 := le_maxI a.y1 b.y1
  rw [hasB_iff, hasB_iff] at h
  rw [hasB_iff]
  unfold joinB
  cases ha : emptyB a <;> cases hb : emptyB b
  · simp only [Bool.false_eq_true, if_false, uniB]; omega
  · rw [emptyB_iff] at hb
    simp only [Bool.false_eq_true, if_false, if_true]; omega
  · rw [emptyB_iff] at ha
    simp only [if_true, orZ_no hb]; omega
  · rw [emptyB_iff] at ha hb
    omega

/-- A number counted in pixels, rounded down; rounded up. -/
def dn (a : Int) : Int := a / 65536
def up (a : Int) : Int := if a % 65536 = 0 then a / 65536 else a / 65536 + 1
theorem dn_mono {a b : Int} (h : a ≤ b) : dn a ≤ dn b := by unfold dn; omega
theorem up_mono {a b : Int} (h : a ≤ b) : up a ≤ up b := by unfold up; split <;> split <;> omega
theorem dn_minI (a b : Int) : dn (minI a b) = minI (dn a) (dn b) := by unfold minI dn; split <;> split <;> omega
theorem up_maxI (a b : Int) : up (maxI a b) = maxI (up a) (up b) := by
  by_cases h : a < b
  · have := up_mono (Int.le_of_lt h)
    rw [maxI, if_pos h, maxI]; split <;> omega
  · have := up_mono (show b ≤ a by omega)
    rw [maxI, if_neg h, maxI, if_neg (by omega)]
theorem dn_bd {a : Int} (h : -9223372036854775808 ≤ a) (h2 : a ≤ 9223372036854775807) : -140737488355328 ≤ dn a ∧ dn a ≤ 140737488355327 := by unfold dn; omega
theorem up_bd {a : Int} (h : -9223372036854775808 ≤ a) (h2 : a ≤ 9223372036854775807) : -140737488355328 ≤ up a ∧ up a ≤ 140737488355328 := by unfold up; split <;> omega
/-- The least and the greatest numbers of places, one by one; none of none. -/
def ends1 (e : Option (Pt × Pt)) (p : Pt) : Option (Pt × Pt) :=
  match e with
  | none => some (p, p)
  | some (a, b) => some (⟨minI a.x p.x, minI a.y p.y⟩, ⟨maxI b.x p.x, maxI b.y p.y⟩)
def endsP (ps : List Pt) : Option (Pt × Pt) := ps.foldl ends1 none
theorem endsP_nil : endsP [] = none := rfl
theorem endsP_snoc (ps : List Pt) (p : Pt) : endsP (ps ++ [p]) = ends1 (endsP ps) p := by simp [endsP]
def boxE (e : Option (Pt × Pt)) : Bo :=
  match e with
  | none => zeroB
  | some (a, b) => ⟨dn a.x, dn a.y, up b.x, up b.y⟩
def pixB (p : Pt) : Bo := ⟨dn p.x, dn p.y, up p.x, up p.y⟩
/-- The least box that has all these places. -/
def boxP (ps : List Pt) : Bo := boxE (endsP ps)
theorem boxE_snoc (e : Option (Pt × Pt)) (p : Pt) : boxE (ends1 e p) = if e = none then pixB p else uniB (boxE e) (pixB p) := by
  rcases e with _ | ⟨a, b⟩
  · rfl
  · rw [if_neg (by simp)]
    simp only [ends1, boxE, uniB, pixB, dn_minI, up_maxI]
theorem endsP_none {ps : List Pt} : endsP ps = none ↔ ps = [] := by
  constructor
  · intro h
    rcases List.eq_nil_or_concat ps with e | ⟨qs, p, e⟩
    · exact e
    · subst e
      rw [List.concat_eq_append, endsP_snoc] at h
      unfold ends1 at h
      split at h <;> cases h
  · rintro rfl; rfl
theorem uniB_self (a : Bo) : uniB a a = a := by
  cases a
  simp [uniB, minI, maxI]
theorem boxP_snoc (ps : List Pt) (p : Pt) : boxP (ps ++ [p]) = uniB (if ps = [] then pixB p else boxP ps) (pixB p) := by
  unfold boxP
  rw [endsP_snoc, boxE_snoc]
  by_cases h : ps = []
  · rw [if_pos (endsP_none.2 h), if_pos h, uniB_self]
  · rw [if_neg (fun e => h (endsP_none.1 e)), if_neg h]
theorem ends_all (ps : List Pt) : ∀ a b, endsP ps = some (a, b) → (∀ p ∈ ps, a.x ≤ p.x ∧ a.y ≤ p.y ∧ p.x ≤ b.x ∧ p.y ≤ b.y) ∧ (∃ p ∈ ps, p.x = a.x) ∧ (∃ p ∈ ps, p.y = a.y) ∧ (∃ p ∈ ps, p.x = b.x) ∧ (∃ p ∈ ps, p.y = b.y) := by
  suffices H : ∀ n (ps : List Pt), ps.length = n → ∀ a b, endsP ps = some (a, b) → (∀ p ∈ ps, a.x ≤ p.x ∧ a.y ≤ p.y ∧ p.x ≤ b.x ∧ p.y ≤ b.y) ∧ (∃ p ∈ ps, p.x = a.x) ∧ (∃ p ∈ ps, p.y = a.y) ∧ (∃ p ∈ ps, p.x = b.x) ∧ (∃ p ∈ ps, p.y = b.y) from H _ ps rfl
  intro n
  induction n with
  | zero =>
    intro ps hl a b h
    obtain rfl := List.eq_nil_of_length_eq_zero hl
    simp [endsP] at h
  | succ n ih =>
    intro ps hl a b h
    rcases List.eq_nil_or_concat ps with e | ⟨qs, q, e⟩
    · subst e; simp at hl
    · rw [List.concat_eq_append] at e
      subst e
      rw [endsP_snoc] at h
      rcases hq : endsP qs with _ | ⟨c, d⟩
      · rw [hq] at h
        obtain rfl := endsP_none.1 hq
        simp only [ends1, Option.some.injEq, Prod.mk.injEq] at h
        obtain ⟨rfl, rfl⟩ := h
        simp
      · rw [hq] at h
        simp only [ends1, Option.some.injEq, Prod.mk.injEq] at h
        obtain ⟨rfl, rfl⟩ := h
        obtain ⟨h0, ⟨p1, m1, e1⟩, ⟨p2, m2, e2⟩, ⟨p3, m3, e3⟩, ⟨p4, m4, e4⟩⟩ := ih qs (by simp at hl; omega) c d hq
        have g1 := minI_le c.x q.x
        have g2 := minI_le c.y q.y
        have g3 := le_maxI d.x q.x
        have g4 := le_maxI d.y q.y
        refine ⟨fun p hp => ?_, ?_, ?_, ?_, ?_⟩
        · simp only
          rcases List.mem_append.1 hp with hp | hp
          · have := h0 p hp; omega
          · obtain rfl : p = q := by simpa using hp
            omega
        · rcases g1.2.2 with g | g
          · exact ⟨p1, List.mem_append_left _ m1, by simp only; omega⟩
          · exact ⟨q, by simp, by simp only; omega⟩
        · rcases g2.2.2 with g | g
          · exact ⟨p2, List.mem_append_left _ m2, by simp only; omega⟩
          · exact ⟨q, by simp, by simp only; omega⟩
        · rcases g3.2.2 with g | g
          · exact ⟨p3, List.mem_append_left _ m3, by simp only; omega⟩
          · exact ⟨q, by simp, by simp only; omega⟩
        · rcases g4.2.2 with g | g
          · exact ⟨p4, List.mem_append_left _ m4, by simp only; omega⟩
          · exact ⟨q, by simp, by simp only; omega⟩
/-- A part's box lies in the box of all. -/
theorem join_part {ps qs : List Pt} (hs : ∀ p ∈ qs, p ∈ ps) (h : emptyB (boxP qs) = false) : joinB (boxP ps) (boxP qs) = boxP ps := by
  rcases hq : endsP qs with _ | ⟨c, d⟩
  · unfold boxP at h; rw [hq] at h; simp [boxE, emptyB, zeroB] at h
  · obtain ⟨_, ⟨p1, m1, e1⟩, ⟨p2, m2, e2⟩, ⟨p3, m3, e3⟩, ⟨p4, m4, e4⟩⟩ := ends_all qs c d hq
    rcases hp : endsP ps with _ | ⟨a, b⟩
    · have := endsP_none.1 hp
      subst this
      have := hs p1 m1
      cases this
    · obtain ⟨h0, _⟩ := ends_all ps a b hp
      have k1 := dn_mono (e1 ▸ (h0 p1 (hs p1 m1)).1)
      have k2 := dn_mono (e2 ▸ (h0 p2 (hs p2 m2)).2.1)
      have k3 := up_mono (e3 ▸ (h0 p3 (hs p3 m3)).2.2.1)
      have k4 := up_mono (e4 ▸ (h0 p4 (hs p4 m4)).2.2.2)
      unfold boxP at h ⊢
      rw [hq] at h ⊢
      rw [hp]
      have g := emptyB_not h
      simp only [boxE] at g
      unfold joinB
      rw [if_neg (by rw [emptyB_iff]; simp only [boxE]; omega), if_neg (by rw [h]; simp)]
      simp only [uniB, boxE]
      rw [minI_eq k1, minI_eq k2, maxI_eq k3, maxI_eq k4]

end M
end Go.Proofs.Ytopepgifhnfbiaa

namespace Go.Proofs.Ytopepgifhnfbiaa
open Go Go.RowKit
open M

/-- A box's cells. -/
abbrev bCells (b : Bo) : Array Value := #[.int .i64 b.x0, .int .i64 b.y0, .int .i64 b.x1, .int .i64 b.y1]

theorem b_empty (b : Bo) (w : World) : Calls Try.prog 41 #[.agg (bCells b)] w fun r w' => r = .returned (.bool (emptyB b)) ∧ Below w.heap.size w w' := by
  obtain ⟨x0, y0, x1, y1⟩ := b
  unfold emptyB
  simp only
  by_cases h : x1 ≤ x0
  · go_enter Try.func41, Try.ntmps41
    go_wp2
    refine bodyPost_ret (v := .bool true) (by simp [results, Try.results41, go_sem]) rfl ⟨by simp [h], ?_⟩
    repeat (first | exact Below.refl _ _ | refine Below.alloc ?_ (by first | (simp; done) | (simp; omega)) _ | refine Below.setCell ?_ (by simp; omega) _)
  · go_enter Try.func41, Try.ntmps41
    go_wp2
    refine bodyPost_ret (v := .bool (decide (y1 ≤ y0))) (by simp [results, Try.results41, go_sem]) rfl ⟨by simp; omega, ?_⟩
    repeat (first | exact Below.refl _ _ | refine Below.alloc ?_ (by first | (simp; done) | (simp; omega)) _ | refine Below.setCell ?_ (by simp; omega) _)
theorem has_old {w W : World} {cs ds : Array Value} {t t2 : TypeId} (h : (w.alloc (.cells cs t)).alloc (.cells ds t2) = W) : Has W w.heap.size cs t ∧ Has W (w.heap.size + 1) ds t2 ∧ Below w.heap.size w W := by
  subst h
  refine ⟨(has_new rfl).alloc _, has_new (by simp), ((Below.refl _ _).alloc (Nat.le_refl _) _).alloc (by simp) _⟩
theorem b_orZero (b : Bo) (w : World) : Calls Try.prog 55 #[.agg (bCells b)] w fun r w' => r = .returned (.agg (bCells (orZ b))) ∧ Below w.heap.size w w' := by
  obtain ⟨W, hW⟩ : ∃ W, (w.alloc (.cells (bCells b) 41)).alloc (.cells #[.int .i64 0, .int .i64 0, .int .i64 0, .int .i64 0] 41) = W := ⟨_, rfl⟩
  obtain ⟨ha, hr, hb0⟩ := has_old hW
  obtain ⟨B, hB⟩ : ∃ B, w.heap.size = B := ⟨_, rfl⟩
  rw [hB] at ha hr
  have HB := Lib.hid hb0
  have HA := Lib.hid ha
  have HR := Lib.hid hr
  have HW := Lib.hid hW
  have EM := Lib.hid (fun w => b_empty b w)
  have HZ : Hid (orZ b = if emptyB b = true then zeroB else b) := Lib.hid rfl
  obtain ⟨e, he⟩ : ∃ e, emptyB b = e := ⟨_, rfl⟩
  rw [he] at HZ EM
  obtain ⟨x0, y0, x1, y1⟩ := b
  clear ha hr hb0 hW he
  go_enter Try.func55, Try.ntmps55
  go_upto_region 1 with fail
  rw [HW.out]
  have a0 := HA.out.cell 0 _ rfl
  have a1 := HA.out.cell 1 _ rfl
  have a2 := HA.out.cell 2 _ rfl
  have a3 := HA.out.cell 3 _ rfl
  go_wp2_with fail
  refine (EM.out _).mono ?_
  rintro r w1 ⟨rfl, hb⟩
  have HB1 := Lib.hid (HB.out.trans (hb.mono HB.out.size))
  have ha := HA.out.below hb HA.out.lt
  have hr := HR.out.below hb HR.out.lt
  clear a0 a1 a2 a3
  have a0 := ha.cell 0 _ rfl
  have a1 := ha.cell 1 _ rfl
  have a2 := ha.cell 2 _ rfl
  have a3 := ha.cell 3 _ rfl
  have r0 := hr.cell 0 _ rfl
  have r1 := hr.cell 1 _ rfl
  have r2 := hr.cell 2 _ rfl
  have r3 := hr.cell 3 _ rfl
  have fz := has_fro hr
  clear hb ha hr
  cases e
  · go_wp2
    refine bodyPost_ret (v := .agg #[.int .i64 x0, .int .i64 y0, .int .i64 x1, .int .i64 y1]) (by simp [results, Try.results55, go_sem, r0, r1, r2, r3]) rfl ⟨by rw [HZ.out]; rfl, ?_⟩
    repeat (first | exact HB1.out | refine Below.setCell ?_ (show w.heap.size ≤ B + 1 by omega) _)
  · go_wp2
    refine bodyPost_ret (v := .agg #[.int .i64 0, .int .i64 0, .int .i64 0, .int .i64 0]) (by simp [results, Try.results55, go_sem, r0, r1, r2, r3]) rfl ⟨by rw [HZ.out]; rfl, ?_⟩
    repeat (first | exact HB1.out | refine Below.setCell ?_ (show w.heap.size ≤ B + 1 by omega) _)

theorem has_old3 {w W : World} {cs ds es : Array Value} {t t2 t3 : TypeId} (h : ((w.alloc (.cells cs t)).alloc (.cells ds t2)).alloc (.cells es t3) = W) : Has W w.heap.size cs t ∧ Has W (w.heap.size + 1) ds t2 ∧ Has W (w.heap.size + 2) es t3 ∧ Below w.heap.size w W := by
  subst h
  exact ⟨((has_new rfl).alloc _).alloc _, (has_new (by simp)).alloc _, has_new (by simp), (((Below.refl _ _).alloc (Nat.le_refl _) _).alloc (by simp) _).alloc (by simp; omega) _⟩
set_option maxHeartbeats 1000000 in
theorem b_meet (a b : Bo) (w : World) : Calls Try.prog 39 #[.agg (bCells a), .agg (bCells b)] w fun r w' => r = .returned (.agg (bCells (meetB a b))) ∧ Below w.heap.size w w' := by
  obtain ⟨W, hW⟩ : ∃ W, ((w.alloc (.cells (bCells a) 41)).alloc (.cells (bCells b) 41)).alloc (.cells #[.int .i64 0, .int .i64 0, .int .i64 0, .int .i64 0] 41) = W := ⟨_, rfl⟩
  obtain ⟨ha, hb, hr, hb0⟩ := has_old3 hW
  obtain ⟨B, hB⟩ : ∃ B, w.heap.size = B := ⟨_, rfl⟩
  rw [hB] at ha hb hr
  have HB := Lib.hid hb0
  have HA := Lib.hid ha
  have HBB := Lib.hid hb
  have HR := Lib.hid hr
  have HW := Lib.hid hW
  obtain ⟨x0, y0, x1, y1⟩ := a
  obtain ⟨p0, q0, p1, q1⟩ := b
  obtain ⟨m0, hm0⟩ : ∃ m, (if x0 < p0 then p0 else x0) = m := ⟨_, rfl⟩
  obtain ⟨m1, hm1⟩ : ∃ m, (if y0 < q0 then q0 else y0) = m := ⟨_, rfl⟩
  obtain ⟨m2, hm2⟩ : ∃ m, (if p1 < x1 then p1 else x1) = m := ⟨_, rfl⟩
  obtain ⟨m3, hm3⟩ : ∃ m, (if q1 < y1 then q1 else y1) = m := ⟨_, rfl⟩
  have hn0 : max x0 p0 = m0 := by rw [← hm0]; split <;> omega
  have hn1 : max y0 q0 = m1 := by rw [← hm1]; split <;> omega
  have hn2 : min x1 p1 = m2 := by rw [← hm2]; split <;> omega
  have hn3 : min y1 q1 = m3 := by rw [← hm3]; split <;> omega
  have OZ := Lib.hid (fun w => b_orZero ⟨m0, m1, m2, m3⟩ w)
  have HM : Hid (orZ ⟨m0, m1, m2, m3⟩ = meetB ⟨x0, y0, x1, y1⟩ ⟨p0, q0, p1, q1⟩) := Lib.hid (by rw [← hm0, ← hm1, ← hm2, ← hm3]; rfl)
  obtain ⟨R, hR⟩ : ∃ R, meetB ⟨x0, y0, x1, y1⟩ ⟨p0, q0, p1, q1⟩ = R := ⟨_, rfl⟩
  rw [hR] at HM ⊢
  rw [HM.out] at OZ
  clear ha hb hr hb0 hW hR
  go_enter Try.func39, Try.ntmps39
  go_upto_region 1 with fail
  rw [HW.out]
  have a0 := HA.out.cell 0 _ rfl
  have a1 := HA.out.cell 1 _ rfl
  have a2 := HA.out.cell 2 _ rfl
  have a3 := HA.out.cell 3 _ rfl
  have b0 := HBB.out.cell 0 _ rfl
  have b1 := HBB.out.cell 1 _ rfl
  have b2 := HBB.out.cell 2 _ rfl
  have b3 := HBB.out.cell 3 _ rfl
  go_wp2_with fail
  refine (OZ.out _).mono ?_
  rintro r w1 ⟨rfl, hb⟩
  have HB1 := Lib.hid (HB.out.trans (hb.mono HB.out.size))
  have hr := HR.out.below hb HR.out.lt
  clear a0 a1 a2 a3 b0 b1 b2 b3
  have r0 := hr.cell 0 _ rfl
  have r1 := hr.cell 1 _ rfl
  have r2 := hr.cell 2 _ rfl
  have r3 := hr.cell 3 _ rfl
  have fz := has_fro hr
  clear hb hr
  obtain ⟨z0, z1, z2, z3⟩ := R
  go_wp2
  refine bodyPost_ret (v := .agg #[.int .i64 z0, .int .i64 z1, .int .i64 z2, .int .i64 z3]) (by simp [results, Try.results39, go_sem, r0, r1, r2, r3]) rfl ⟨rfl, ?_⟩
  repeat (first | exact HB1.out | refine Below.setCell ?_ (show w.heap.size ≤ B + 2 by omega) _)

end Go.Proofs.Ytopepgifhnfbiaa

namespace Go.Proofs.Ytopepgifhnfbiaa
open Go Go.RowKit
open M

def I64 (a : Int) : Prop := -9223372036854775808 ≤ a ∧ a ≤ 9223372036854775807
theorem b_down (a : Int) (w : World) : Calls Try.prog 57 #[.int .i64 a] w fun r w' => r = .returned (.int .i64 (dn a)) ∧ w = w' := by
  unfold dn
  go_enter Try.func57, Try.ntmps57
  go_wp2
  go_ret
  exact ⟨rfl, rfl⟩
theorem b_up (a : Int) (h : I64 a) (w : World) : Calls Try.prog 58 #[.int .i64 a] w fun r w' => r = .returned (.int .i64 (up a)) ∧ w = w' := by
  have bd := dn_bd h.1 h.2
  have ha := and_one a
  obtain ⟨m, hm⟩ : ∃ m, bits .and .i64 a 65535 = m := ⟨_, rfl⟩
  obtain ⟨d, hd⟩ : ∃ d, dn a = d := ⟨_, rfl⟩
  have DN := Lib.hid (fun w => b_down a w)
  rw [hd] at DN bd
  rw [hm] at ha
  by_cases h0 : m = 0
  · have HU : Hid (up a = d) := Lib.hid (by rw [← hd]; unfold up dn; rw [if_pos (by omega)])
    clear ha hd h
    go_enter Try.func58, Try.ntmps58
    go_wp2_with fail
    refine (DN.out _).mono ?_
    rintro r w1 ⟨rfl, rfl⟩
    go_wp2
    go_ret
    exact ⟨by rw [HU.out]; rfl, rfl⟩
  · have HU : Hid (up a = d + 1) := Lib.hid (by rw [← hd]; unfold up dn; rw [if_neg (by omega)])
    have b1 : -140737488355328 ≤ d := bd.1
    have b2 : d ≤ 140737488355327 := bd.2
    clear ha hd h bd
    go_enter Try.func58, Try.ntmps58
    go_wp2_with fail
    refine (DN.out _).mono ?_
    rintro r w1 ⟨rfl, rfl⟩
    go_wp2
    go_ret
    exact ⟨by rw [HU.out]; rfl, rfl⟩
end Go.Proofs.Ytopepgifhnfbiaa

namespace Go.Proofs.Ytopepgifhnfbiaa
open Go Go.RowKit
open M

/-- The places of the first n polys. -/
def ptsN (ys : List Po) : Nat → List Pt
  | 0 => []
  | n + 1 => ptsN ys n ++ (po ys n).ps
def lsP (e : Option (Pt × Pt)) : Pt := match e with | none => ⟨0, 0⟩ | some (a, _) => a
def gsP (e : Option (Pt × Pt)) : Pt := match e with | none => ⟨0, 0⟩ | some (_, b) => b
def smP (e : Option (Pt × Pt)) : Bool := match e with | none => false | some _ => true
theorem ends1_smP (e : Option (Pt × Pt)) (p : Pt) : smP (ends1 e p) = true := by rcases e with _ | ⟨a, b⟩ <;> rfl
theorem has_set_ne {w : World} {g k : Nat} {cs : Array Value} {t : TypeId} (h : Has w g cs t) (hne : g ≠ k) (j : Nat) (u : Value) : Has (w.setCell ⟨k, j, none⟩ u) g cs t := has_grown h (grownBy_set (World.grownBy.refl _ _) _ _) hne
/-- What the program holds of the places so far. -/
structure EV (w0 : World) (g : Nat) (e : Option (Pt × Pt)) (wr : World) : Prop where
  k1 : Has wr g (pCells (lsP e)) 28
  k2 : Has wr (g + 1) (pCells (gsP e)) 28
  below : Below w0.heap.size w0 wr
  lo : w0.heap.size ≤ g
theorem EV.later {w0 wr w' : World} {g : Nat} {e : Option (Pt × Pt)} (h : EV w0 g e wr) (hb : Below wr.heap.size wr w') : EV w0 g e w' :=
  ⟨h.k1.below hb h.k1.lt, h.k2.below hb h.k2.lt, h.below.trans (hb.mono h.below.size), h.lo⟩
theorem EV.put {w0 wr : World} {g : Nat} {e : Option (Pt × Pt)} (h : EV w0 g e wr) (e' : Option (Pt × Pt)) :
    EV w0 g e' ((((wr.setCell ⟨g, 0, none⟩ (.int .i64 (lsP e').x)).setCell ⟨g, 1, none⟩ (.int .i64 (lsP e').y)).setCell ⟨g + 1, 0, none⟩ (.int .i64 (gsP e').x)).setCell ⟨g + 1, 1, none⟩ (.int .i64 (gsP e').y)) := by
  have hl := h.lo
  refine ⟨?_, ?_, ((((h.below.setCell (show w0.heap.size ≤ g from hl) _).setCell (show w0.heap.size ≤ g from hl) _).setCell (show w0.heap.size ≤ g + 1 by omega) _).setCell (show w0.heap.size ≤ g + 1 by omega) _), hl⟩
  · have := has_set (has_set h.k1 0 (.int .i64 (lsP e').x)) 1 (.int .i64 (lsP e').y)
    refine has_set_ne (has_set_ne ?_ (by omega) _ _) (by omega) _ _
    simpa using this
  · have h1 : Has ((wr.setCell ⟨g, 0, none⟩ (.int .i64 (lsP e').x)).setCell ⟨g, 1, none⟩ (.int .i64 (lsP e').y)) (g + 1) (pCells (gsP e)) 28 := has_set_ne (has_set_ne h.k2 (by omega) _ _) (by omega) _ _
    have := has_set (has_set h1 0 (.int .i64 (gsP e').x)) 1 (.int .i64 (gsP e').y)
    simpa using this

def preP (e : Option (Pt × Pt)) (p : Pt) : Pt × Pt := match e with | none => (p, p) | some q => q
theorem ends1_pre (e : Option (Pt × Pt)) (p a b : Pt) (h : preP e p = (a, b)) : ends1 e p = some (⟨minI a.x p.x, minI a.y p.y⟩, ⟨maxI b.x p.x, maxI b.y p.y⟩) := by
  rcases e with _ | ⟨c, d⟩
  · simp only [preP, Prod.mk.injEq] at h
    obtain ⟨rfl, rfl⟩ := h
    simp [ends1, minI, maxI]
  · simp only [preP, Prod.mk.injEq] at h
    obtain ⟨rfl, rfl⟩ := h
    rfl
theorem take_pt {ps : List Pt} {k : Nat} (h : k < ps.length) : ps.take (k + 1) = ps.take k ++ [pt ps k] := by
  rw [List.take_succ_eq_append_getElem h]
  unfold pt
  simp [List.getD, h]
set_option maxHeartbeats 4000000 in
theorem b_ends {v : Value} {ys : List Po} {w : World} (h : Ysl w v ys) :
    Calls Try.prog 56 #[v] w fun r w' => r = .returned (.tuple #[.agg (pCells (lsP (endsP (ptsN ys ys.length)))), .agg (pCells (gsP (endsP (ptsN ys ys.length)))), .bool (smP (endsP (ptsN ys ys.length)))]) ∧ Below w.heap.size w w' := by
  obtain ⟨W, hW⟩ : ∃ W, (w.alloc (.cells #[.int .i64 0, .int .i64 0] 28)).alloc (.cells #[.int .i64 0, .int .i64 0] 28) = W := ⟨_, rfl⟩
  obtain ⟨ha, hr, hb0⟩ := has_old hW
  obtain ⟨B, hB⟩ : ∃ B, w.heap.size = B := ⟨_, rfl⟩
  rw [hB] at ha hr
  have E0 : Hid (EV w B none W) := Lib.hid ⟨ha, hr, hb0, by omega⟩
  obtain ⟨N, hN⟩ : ∃ N, ys.length = N := ⟨_, rfl⟩
  obtain ⟨ao, cap, ev⟩ : ∃ ao cap, v = .slice ao N cap := by obtain ⟨ao, cap, e, _⟩ := h; rw [hN] at e; exact ⟨_, _, e⟩
  subst ev
  rw [hN]
  have HS := Lib.hid h
  have HW := Lib.hid hW
  have hN1 : N ≤ 1000 := by obtain ⟨_, _, _, hf, _⟩ := h; omega
  have HN1 := Lib.hid hN1
  clear h ha hr hb0 hW hN hN1
  go_enter Try.func56, Try.ntmps56
  go_upto_region 1 with fail
  rw [HW.out]
  clear hB
  go_wp2_with fail
  go_loopw [11, 4] (fun i s wr => ∃ n : Nat, n ≤ N ∧ i = .int .i64 n ∧ s = .bool (smP (endsP (ptsN ys n))) ∧ EV w B (endsP (ptsN ys n)) wr) (fun i _ _ => N - (intOf i).toNat)
  case atStart => exact ⟨0, by omega, rfl, rfl, E0.out⟩
  case round =>
    clear E0
    obtain ⟨n, hn, rfl, rfl, hk⟩ := hrel
    have o0 : (N : Int) ≤ 1000 := by have := HN1.out; omega
    have HK := Lib.hid hk
    by_cases hlt : n < N
    · obtain ⟨g, o, e1, r0, l0⟩ := HS.out.row (by omega)
      subst e1
      have hb := hk.below
      have r := r0.below hb (by omega)
      have hsl := r0.sl n (by omega)
      obtain ⟨y, hy⟩ : ∃ y, po ys n = y := ⟨_, rfl⟩
      have c0 := r.c0 n (by omega)
      have c1 := r.c1 n (by omega)
      have HPN : Hid (ptsN ys (n + 1) = ptsN ys n ++ y.ps) := Lib.hid (by rw [← hy]; rfl)
      rw [hy] at c0 c1 hsl
      obtain ⟨c, vy, ps⟩ := y
      simp only at c0 c1 hsl HPN
      obtain ⟨K, hK⟩ : ∃ K, ps.length = K := ⟨_, rfl⟩
      obtain ⟨aoy, capy, evy⟩ : ∃ ao cap, vy = .slice ao K cap := by obtain ⟨ao, cap, hv, _⟩ := hsl; rw [hK] at hv; exact ⟨_, _, hv⟩
      subst evy
      obtain ⟨V, hV⟩ : ∃ V, wr.alloc (.cells #[.bool c, .slice aoy K capy] 31) = V := ⟨_, rfl⟩
      obtain ⟨gp, hgp⟩ : ∃ g, wr.heap.size = g := ⟨_, rfl⟩
      have bV : Below wr.heap.size wr V := by rw [← hV]; exact (Below.refl _ _).alloc (Nat.le_refl _) _
      have kp : Has V gp #[.bool c, .slice aoy K capy] 31 := by rw [← hV]; exact has_new hgp
      have KV := Lib.hid (HK.out.later bV)
      have SV := Lib.hid hsl
      have HV := Lib.hid hV
      have KPX := Lib.hid kp
      have HKL := Lib.hid hK
      obtain ⟨Q, hQ⟩ : ∃ Q, ptsN ys n = Q := ⟨_, rfl⟩
      rw [hQ] at KV HPN
      have HQ := Lib.hid hQ
      have o3 : (n : Int) < N := by omega
      have o4 : n < N := hlt
      clear r r0 l0 hy hb hk hsl bV hV kp hK hQ
      go_upto_region 4 with fail
      rw [HV.out]
      clear hgp c0 c1
      have x0 := KPX.out.cell 0 _ rfl
      have x1 := KPX.out.cell 1 _ rfl
      go_wp2_with fail
      clear x0 x1
      go_loopw [18, 4] (fun i s wk => ∃ k : Nat, k ≤ K ∧ i = .int .i64 k ∧ s = .bool (smP (endsP (Q ++ ps.take k))) ∧ EV w B (endsP (Q ++ ps.take k)) wk) (fun i _ _ => K - (intOf i).toNat)
      case atStart =>
        have e : Q ++ ps.take 0 = Q := by simp
        exact ⟨0, by omega, rfl, by rw [e, ← HQ.out], by rw [e]; exact KV.out⟩
      case round =>
        obtain ⟨k, hk, rfl, rfl, hE⟩ := hrel
        have HE := Lib.hid hE
        by_cases hkl : k < K
        · obtain ⟨gq, oq, eq, rp, -⟩ := (SV.out.below hE.below (Nat.le_refl _)).row (by omega)
          subst eq
          obtain ⟨E, hEe⟩ : ∃ E, endsP (Q ++ ps.take k) = E := ⟨_, rfl⟩
          have HNX : Hid (endsP (Q ++ ps.take (k + 1)) = ends1 E (pt ps k)) := Lib.hid (by rw [take_pt (by rw [HKL.out]; exact hkl), ← List.append_assoc, endsP_snoc, hEe])
          have c0 := rp.c0 k (by rw [HKL.out]; exact hkl)
          have c1 := rp.c1 k (by rw [HKL.out]; exact hkl)
          obtain ⟨q, hq⟩ : ∃ q, pt ps k = q := ⟨_, rfl⟩
          rw [hq] at c0 c1 HNX
          obtain ⟨px, py⟩ := q
          simp only at c0 c1
          obtain ⟨ga, hga⟩ : ∃ g, wr.heap.size = g := ⟨_, rfl⟩
          obtain ⟨V2, hV2⟩ : ∃ V, wr.alloc (.cells #[.int .i64 px, .int .i64 py] 28) = V := ⟨_, rfl⟩
          have bV2 : Below wr.heap.size wr V2 := by rw [← hV2]; exact (Below.refl _ _).alloc (Nat.le_refl _) _
          have kq : Has V2 ga #[.int .i64 px, .int .i64 py] 28 := by rw [← hV2]; exact has_new hga
          have hlt1 : B + 1 < ga := by rw [← hga]; exact hE.k2.lt
          rw [hEe] at hE HE
          have HE2 := Lib.hid (HE.out.later bV2)
          have KQ := Lib.hid kq
          have HV2 := Lib.hid hV2
          have HEe := Lib.hid hEe
          have HLT := Lib.hid hlt1
          have o5 : (k : Int) < K := by omega
          have o6 : (K : Int) ≤ 8796093022208 := by have := SV.out.few; have := HKL.out; omega
          clear hE HE hq bV2 kq hV2 hEe rp hlt1
          go_upto_region 7 with fail
          rw [HV2.out]
          clear hga c0 c1
          obtain ⟨sm, hsm⟩ : ∃ s, smP (endsP (Q ++ ps.take k)) = s := ⟨_, rfl⟩
          rw [hsm]
          have HSM := Lib.hid hsm
          clear hsm
          go_upto_if 23 with fail
          go_cut [4] (fun s wx => s = .bool true ∧ ∃ a b : Pt, preP E ⟨px, py⟩ = (a, b) ∧ EV w B (some (a, b)) wx ∧ Has wx ga #[.int .i64 px, .int .i64 py] 28)
          case first =>
            have a0 := KQ.out.cell 0 _ rfl
            have a1 := KQ.out.cell 1 _ rfl
            rcases E with _ | ⟨a, b⟩
            · obtain rfl : sm = false := by rw [← HSM.out, HEe.out]; rfl
              have hk1 := HE2.out.k1
              have hk2 := HE2.out.k2
              have p0 : V2.cell? ⟨B, 0, none⟩ = some (.int .i64 0) := hk1.cell 0 _ rfl
              have p1 : V2.cell? ⟨B, 1, none⟩ = some (.int .i64 0) := hk1.cell 1 _ rfl
              have q0 : V2.cell? ⟨B + 1, 0, none⟩ = some (.int .i64 0) := hk2.cell 0 _ rfl
              have q1 : V2.cell? ⟨B + 1, 1, none⟩ = some (.int .i64 0) := hk2.cell 1 _ rfl
              have fz := has_fro hk1
              have fz2 := has_fro hk2
              have R0 := Lib.hid (HE2.out.put (some (⟨px, py⟩, ⟨px, py⟩)))
              have n1 : ga ≠ B := by have := HLT.out; omega
              have n2 : ga ≠ B + 1 := by have := HLT.out; omega
              clear hk1 hk2
              go_upto_region 8 with fail
              go_region
              go_wp2
              go_meet
              exact ⟨rfl, ⟨px, py⟩, ⟨px, py⟩, rfl, R0.out.later (below_drew (Below.refl _ _)), has_set_ne (has_set_ne (has_set_ne (has_set_ne KQ.out n1 _ _) n1 _ _) n2 _ _) n2 _ _⟩
            · obtain rfl : sm = true := by rw [← HSM.out, HEe.out]; rfl
              go_wp2
              go_meet
              exact ⟨rfl, a, b, rfl, HE2.out, KQ.out⟩
          case rest =>
            obtain ⟨rfl, a, b, hab, hE, hq⟩ := hcut
            rename World => X
            have HE3 := Lib.hid hE
            have n1 : ga ≠ B := by have := HLT.out; omega
            have n2 : ga ≠ B + 1 := by have := HLT.out; omega
            have e1 := ends1_pre E ⟨px, py⟩ a b hab
            obtain ⟨ax, ay⟩ := a
            obtain ⟨bx, by'⟩ := b
            obtain ⟨m0, hm0⟩ : ∃ m, (if px < ax then px else ax) = m := ⟨_, rfl⟩
            obtain ⟨m1, hm1⟩ : ∃ m, (if py < ay then py else ay) = m := ⟨_, rfl⟩
            obtain ⟨m2, hm2⟩ : ∃ m, (if bx < px then px else bx) = m := ⟨_, rfl⟩
            obtain ⟨m3, hm3⟩ : ∃ m, (if by' < py then py else by') = m := ⟨_, rfl⟩
            have e2 : ends1 E ⟨px, py⟩ = some (⟨m0, m1⟩, ⟨m2, m3⟩) := by rw [e1, ← hm0, ← hm1, ← hm2, ← hm3]; rfl
            have HE4 := Lib.hid (hE.put (some (⟨m0, m1⟩, ⟨m2, m3⟩)))
            have hn0 : min ax px = m0 := by rw [← hm0]; split <;> omega
            have hn1 : min ay py = m1 := by rw [← hm1]; split <;> omega
            have hn2 : max bx px = m2 := by rw [← hm2]; split <;> omega
            have hn3 : max by' py = m3 := by rw [← hm3]; split <;> omega
            clear hm0 hm1 hm2 hm3
            have HN4 := Lib.hid (HNX.out.trans e2)
            have a0 := hq.cell 0 _ rfl
            have a1 := hq.cell 1 _ rfl
            have p0 : X.cell? ⟨B, 0, none⟩ = some (.int .i64 ax) := hE.k1.cell 0 _ rfl
            have p1 : X.cell? ⟨B, 1, none⟩ = some (.int .i64 ay) := hE.k1.cell 1 _ rfl
            have q0 : X.cell? ⟨B + 1, 0, none⟩ = some (.int .i64 bx) := hE.k2.cell 0 _ rfl
            have q1 : X.cell? ⟨B + 1, 1, none⟩ = some (.int .i64 by') := hE.k2.cell 1 _ rfl
            have fz := has_fro hE.k1
            have fz2 := has_fro hE.k2
            clear hE hq e1 e2 hab
            go_wp2_with fail
            go_roundw
            case rel => exact ⟨k + 1, by omega, by go_num, by rw [HN4.out]; rfl, by rw [HN4.out]; exact HE4.out⟩
            case measure => simp [intOf]; omega
        · obtain rfl : k = K := by omega
          have o5 : ¬ (k : Int) < k := by omega
          have R1 : Hid (EV w B (endsP (ptsN ys (n + 1))) _) := Lib.hid (by have := HE.out; rw [List.take_of_length_le (show ps.length ≤ k by rw [HKL.out]; exact Nat.le_refl _)] at this; rw [HPN.out]; exact this)
          have R2 : Hid (smP (endsP (Q ++ ps.take k)) = smP (endsP (ptsN ys (n + 1)))) := Lib.hid (by rw [HPN.out, List.take_of_length_le (show ps.length ≤ k by rw [HKL.out]; exact Nat.le_refl _)])
          clear hE
          go_wp2
          go_roundw
          case rel => exact ⟨n + 1, by omega, by go_num, by rw [← R2.out], R1.out⟩
          case measure => simp [intOf]; omega
    · obtain rfl : n = N := by omega
      have o3 : ¬ (n : Int) < n := by omega
      obtain ⟨E, hE⟩ : ∃ E, endsP (ptsN ys n) = E := ⟨_, rfl⟩
      rw [hE] at HK hk
      have HEE := Lib.hid hE
      have p0 := hk.k1.cell 0 _ rfl
      have p1 := hk.k1.cell 1 _ rfl
      have q0 := hk.k2.cell 0 _ rfl
      have q1 := hk.k2.cell 1 _ rfl
      have fz := has_fro hk.k1
      have fz2 := has_fro hk.k2
      clear hk hE
      go_upto_region 13 with fail
      obtain ⟨ea, hea⟩ : ∃ x, lsP E = x := ⟨_, rfl⟩
      obtain ⟨eb, heb⟩ : ∃ x, gsP E = x := ⟨_, rfl⟩
      have HEA := Lib.hid hea
      have HEB := Lib.hid heb
      rw [hea] at p0 p1
      rw [heb] at q0 q1
      obtain ⟨ax, ay⟩ := ea
      obtain ⟨bx, by'⟩ := eb
      clear hea heb
      go_region
      have R0 : EV w B E ((((wr.setCell ⟨B, 0, none⟩ (.int .i64 ax)).setCell ⟨B, 1, none⟩ (.int .i64 ay)).setCell ⟨B + 1, 0, none⟩ (.int .i64 bx)).setCell ⟨B + 1, 1, none⟩ (.int .i64 by')) := by
        have := HK.out.put E
        rw [HEA.out, HEB.out] at this
        exact this
      obtain ⟨X, hX⟩ : ∃ X, ((((wr.setCell ⟨B, 0, none⟩ (.int .i64 ax)).setCell ⟨B, 1, none⟩ (.int .i64 ay)).setCell ⟨B + 1, 0, none⟩ (.int .i64 bx)).setCell ⟨B + 1, 1, none⟩ (.int .i64 by')).drew = X := ⟨_, rfl⟩
      have R1 : Hid (EV w B E X) := Lib.hid (by rw [← hX]; exact R0.later (below_drew (Below.refl _ _)))
      rw [hX]
      clear p0 p1 q0 q1 fz fz2 R0 hX
      have r1 := R1.out.k1
      have r2 := R1.out.k2
      rw [HEA.out] at r1
      rw [HEB.out] at r2
      have p0 := r1.cell 0 _ rfl
      have p1 := r1.cell 1 _ rfl
      have q0 := r2.cell 0 _ rfl
      have q1 := r2.cell 1 _ rfl
      clear r1 r2
      go_wp2
      refine bodyPost_ret (v := .tuple #[.agg #[.int .i64 ax, .int .i64 ay], .agg #[.int .i64 bx, .int .i64 by'], .bool (smP (endsP (ptsN ys n)))]) (by simp [results, Try.results56, go_sem, p0, p1, q0, q1]) rfl ⟨?_, R1.out.below⟩
      rw [HEE.out, HEA.out, HEB.out]

end Go.Proofs.Ytopepgifhnfbiaa

namespace Go.Proofs.Ytopepgifhnfbiaa
open Go Go.RowKit
open M

def PI (ps : List Pt) : Prop := ∀ p ∈ ps, I64 p.x ∧ I64 p.y
theorem PI.gs {ps : List Pt} (h : PI ps) : I64 (gsP (endsP ps)).x ∧ I64 (gsP (endsP ps)).y := by
  rcases e : endsP ps with _ | ⟨a, b⟩
  · simp [gsP, I64]
  · obtain ⟨_, _, _, ⟨p3, m3, e3⟩, ⟨p4, m4, e4⟩⟩ := ends_all ps a b e
    have h3 := (h p3 m3).1
    have h4 := (h p4 m4).2
    rw [e3] at h3
    rw [e4] at h4
    exact ⟨h3, h4⟩
set_option maxHeartbeats 2000000 in
theorem b_of {v : Value} {ys : List Po} {w : World} (h : Ysl w v ys) (hp : PI (ptsN ys ys.length)) :
    Calls Try.prog 40 #[v] w fun r w' => r = .returned (.agg (bCells (boxP (ptsN ys ys.length)))) ∧ Below w.heap.size w w' := by
  obtain ⟨W, hW⟩ : ∃ W, w.alloc (.cells #[.int .i64 0, .int .i64 0, .int .i64 0, .int .i64 0] 41) = W := ⟨_, rfl⟩
  obtain ⟨B, hB⟩ : ∃ B, w.heap.size = B := ⟨_, rfl⟩
  have hr : Has W B #[.int .i64 0, .int .i64 0, .int .i64 0, .int .i64 0] 41 := by rw [← hW]; exact has_new hB
  have hb0 : Below w.heap.size w W := by rw [← hW]; exact (Below.refl _ _).alloc (Nat.le_refl _) _
  have EN := Lib.hid (b_ends (h.below hb0))
  have GI := Lib.hid hp.gs
  have BX : Hid (boxP (ptsN ys ys.length) = boxE (endsP (ptsN ys ys.length))) := Lib.hid rfl
  obtain ⟨E, hE⟩ : ∃ E, endsP (ptsN ys ys.length) = E := ⟨_, rfl⟩
  rw [hE] at EN GI BX
  have HW := Lib.hid hW
  have HB0 := Lib.hid hb0
  have HR := Lib.hid hr
  obtain ⟨ao, n, cap, rfl⟩ : ∃ ao n cap, v = .slice ao n cap := by obtain ⟨ao, cap, e, _⟩ := h; exact ⟨_, _, _, e⟩
  obtain ⟨a, ha⟩ : ∃ a, lsP E = a := ⟨_, rfl⟩
  obtain ⟨b, hb⟩ : ∃ b, gsP E = b := ⟨_, rfl⟩
  obtain ⟨sm, hsm⟩ : ∃ s, smP E = s := ⟨_, rfl⟩
  rw [ha, hb, hsm] at EN
  rw [hb] at GI
  have BX2 : Hid (boxP (ptsN ys ys.length) = if sm = true then ⟨dn a.x, dn a.y, up b.x, up b.y⟩ else zeroB) := Lib.hid (by
    rw [BX.out]
    rcases E with _ | ⟨c, d⟩
    · have : sm = false := by rw [← hsm]; rfl
      subst this; rfl
    · have : sm = true := by rw [← hsm]; rfl
      have e1 : c = a := ha
      have e2 : d = b := hb
      subst this e1 e2; rfl)
  obtain ⟨R, hR⟩ : ∃ R, boxP (ptsN ys ys.length) = R := ⟨_, rfl⟩
  rw [hR] at BX2 ⊢
  obtain ⟨ax, ay⟩ := a
  obtain ⟨bx, by'⟩ := b
  simp only at BX2
  have HBe := Lib.hid hB
  clear h hp hW hr hb0 hE ha hb hsm hR BX
  go_enter Try.func40, Try.ntmps40
  go_upto_region 1 with fail
  rw [HW.out]
  clear hB
  go_wp2_with fail
  refine EN.out.mono ?_
  rintro r w1 ⟨rfl, hq⟩
  have hr := HR.out.below hq HR.out.lt
  have B1 := Lib.hid (HB0.out.trans (hq.mono HB0.out.size))
  obtain ⟨V, hV⟩ : ∃ V, (w1.alloc (.cells #[.int .i64 ax, .int .i64 ay] 28)).alloc (.cells #[.int .i64 bx, .int .i64 by'] 28) = V := ⟨_, rfl⟩
  obtain ⟨ka, kb, kbl⟩ := has_old hV
  obtain ⟨G, hG⟩ : ∃ G, w1.heap.size = G := ⟨_, rfl⟩
  rw [hG] at ka kb
  have B2 := Lib.hid (B1.out.trans (kbl.mono B1.out.size))
  have HR2 := Lib.hid (hr.below kbl hr.lt)
  have KA := Lib.hid ka
  have KB := Lib.hid kb
  have HV := Lib.hid hV
  clear hq hr ka kb kbl hV
  go_upto_region 2 with fail
  rw [HV.out]
  clear hG
  have a0 := KA.out.cell 0 _ rfl
  have a1 := KA.out.cell 1 _ rfl
  have b0 := KB.out.cell 0 _ rfl
  have b1 := KB.out.cell 1 _ rfl
  have r0 := HR2.out.cell 0 _ rfl
  have r1 := HR2.out.cell 1 _ rfl
  have r2 := HR2.out.cell 2 _ rfl
  have r3 := HR2.out.cell 3 _ rfl
  have fz := has_fro HR2.out
  cases sm
  · go_wp2
    refine bodyPost_ret (v := .agg #[.int .i64 0, .int .i64 0, .int .i64 0, .int .i64 0]) (by simp [results, Try.results40, go_sem, r0, r1, r2, r3]) rfl ⟨by rw [BX2.out]; rfl, ?_⟩
    repeat (first | exact B2.out | refine Below.setCell ?_ (show w.heap.size ≤ B by have := HBe.out; omega) _)
  · go_upto_region 4 with fail
    refine wp_region_draws_tail 13 (by kernel_rfl) (by kernel_rfl) (by kernel_rfl) (by kernel_rfl) ?_
    simp only [List.take_succ_cons, List.take_zero, List.drop_succ_cons, List.drop_zero]
    repeat (go_big_quiet_step (first | (go_at_call 57; exact quiet1 (b_down _ _)) | (go_at_call_of 58 bx; exact quiet1 (b_up bx GI.out.1 _)) | (go_at_call_of 58 by'; exact quiet1 (b_up by' GI.out.2 _))))
    refine wpQuiet_nil ?_
    rintro _ ⟨nq, rfl⟩
    obtain ⟨X, hX⟩ : ∃ X, V.drewN nq = X := ⟨_, rfl⟩
    have HX := Lib.hid (show Has X B #[.int .i64 0, .int .i64 0, .int .i64 0, .int .i64 0] 41 by rw [← hX]; exact HR2.out)
    have B3 := Lib.hid (show Below w.heap.size w X by rw [← hX]; exact below_drewN B2.out _)
    rw [hX]
    clear r0 r1 r2 r3 fz a0 a1 b0 b1 hX
    have r0 := HX.out.cell 0 _ rfl
    have r1 := HX.out.cell 1 _ rfl
    have r2 := HX.out.cell 2 _ rfl
    have r3 := HX.out.cell 3 _ rfl
    have fz := has_fro HX.out
    go_wp2
    refine bodyPost_ret (v := .agg #[.int .i64 (dn ax), .int .i64 (dn ay), .int .i64 (up bx), .int .i64 (up by')]) (by simp [results, Try.results40, go_sem, r0, r1, r2, r3]) rfl ⟨by rw [BX2.out]; rfl, ?_⟩
    repeat (first | exact B3.out | refine Below.setCell ?_ (show w.heap.size ≤ B by have := HBe.out; omega) _)

/-- What the reference holds of the places so far. -/
structure RV (w0 : World) (B : Nat) (e : Option (Pt × Pt)) (wr : World) : Prop where
  k0 : Has wr B #[.int .i64 0, .int .i64 0, .int .i64 0, .int .i64 0] 41
  k1 : Has wr (B + 1) (bCells (boxE e)) 41
  below : Below w0.heap.size w0 wr
  lo : w0.heap.size ≤ B
theorem RV.later {w0 wr w' : World} {g : Nat} {e : Option (Pt × Pt)} (h : RV w0 g e wr) (hb : Below wr.heap.size wr w') : RV w0 g e w' :=
  ⟨h.k0.below hb h.k0.lt, h.k1.below hb h.k1.lt, h.below.trans (hb.mono h.below.size), h.lo⟩
/-- The box's block behind a store. -/
theorem box_put {wr : World} {g : Nat} {cs : Array Value} {b : Bo} (hs : cs.size = 4) (h : Has wr g cs 41) :
    Has ((((wr.setCell ⟨g, 0, none⟩ (.int .i64 b.x0)).setCell ⟨g, 1, none⟩ (.int .i64 b.y0)).setCell ⟨g, 2, none⟩ (.int .i64 b.x1)).setCell ⟨g, 3, none⟩ (.int .i64 b.y1)) g (bCells b) 41 := by
  have := has_set (has_set (has_set (has_set h 0 (.int .i64 b.x0)) 1 (.int .i64 b.y0)) 2 (.int .i64 b.x1)) 3 (.int .i64 b.y1)
  match cs, hs with
  | ⟨[c0, c1, c2, c3]⟩, _ => simpa using this
theorem RV.put {w0 wr : World} {g : Nat} {e : Option (Pt × Pt)} (h : RV w0 g e wr) (e' : Option (Pt × Pt)) (b : Bo) (hb : boxE e' = b) :
    RV w0 g e' ((((wr.setCell ⟨g + 1, 0, none⟩ (.int .i64 b.x0)).setCell ⟨g + 1, 1, none⟩ (.int .i64 b.y0)).setCell ⟨g + 1, 2, none⟩ (.int .i64 b.x1)).setCell ⟨g + 1, 3, none⟩ (.int .i64 b.y1)) := by
  have hl := h.lo
  subst hb
  exact ⟨has_set_ne (has_set_ne (has_set_ne (has_set_ne h.k0 (by omega) _ _) (by omega) _ _) (by omega) _ _) (by omega) _ _, box_put rfl h.k1,
    (((h.below.setCell (show w0.heap.size ≤ g + 1 by omega) _).setCell (show w0.heap.size ≤ g + 1 by omega) _).setCell (show w0.heap.size ≤ g + 1 by omega) _).setCell (show w0.heap.size ≤ g + 1 by omega) _, hl⟩
theorem boxE_pre (e : Option (Pt × Pt)) (p : Pt) (b : Bo) (h : (if e = none then pixB p else boxE e) = b) : boxE (ends1 e p) = uniB b (pixB p) := by
  rw [boxE_snoc]
  by_cases h0 : e = none
  · rw [if_pos h0] at h ⊢; subst h; rw [uniB_self]
  · rw [if_neg h0] at h ⊢; subst h; rfl
theorem pi_mem {ys : List Po} : ∀ {m n k : Nat}, n < m → k < (po ys n).ps.length → pt (po ys n).ps k ∈ ptsN ys m := by
  intro m
  induction m with
  | zero => intro n k h; omega
  | succ m ih =>
    intro n k h hk
    rw [ptsN]
    by_cases e : n = m
    · subst e
      refine List.mem_append_right _ ?_
      unfold pt
      simp [List.getD, hk]
    · exact List.mem_append_left _ (ih (by omega) hk)

end Go.Proofs.Ytopepgifhnfbiaa

namespace Go.Proofs.Ytopepgifhnfbiaa
open Go Go.RowKit
open M

theorem pi_ptsN {zs : List Po} (h : ∀ i, i < zs.length → PI (po zs i).ps) : ∀ n, n ≤ zs.length → PI (ptsN zs n)
  | 0, _ => fun p hp => by cases hp
  | n + 1, hn => fun p hp => by
    rcases List.mem_append.1 hp with h1 | h1
    · exact pi_ptsN h n (by omega) p h1
    · exact h n (by omega) p h1
theorem ptsN_part {zs : List Po} : ∀ {n i : Nat}, i < n → ∀ p ∈ (po zs i).ps, p ∈ ptsN zs n
  | 0, i, h, _, _ => by omega
  | n + 1, i, h, p, hp => by
    by_cases e : i = n
    · subst e; exact List.mem_append_right _ hp
    · exact List.mem_append_left _ (ptsN_part (by omega) p hp)
theorem ptsN_few {zs : List Po} {m : Nat} (h : ∀ i, i < zs.length → (po zs i).ps.length ≤ m) : ∀ n, n ≤ zs.length → (ptsN zs n).length ≤ n * m
  | 0, _ => by simp [ptsN]
  | n + 1, hn => by
    have := ptsN_few h n (by omega)
    have := h n (by omega)
    show (ptsN zs n ++ (po zs n).ps).length ≤ _
    rw [List.length_append, Nat.add_mul]
    omega
theorem few_all {zs : List Po} {m : Nat} (h : ∀ i, i < zs.length → (po zs i).ps.length ≤ m) (hl : zs.length ≤ 1000) (hm : m ≤ 1000) : (ptsN zs zs.length).length ≤ 4194304 := by
  have h1 := ptsN_few h _ (Nat.le_refl zs.length)
  have := Nat.mul_le_mul hl hm
  omega
theorem few_one {c : Bool} {v : Value} {ps : List Pt} (h : ps.length ≤ 50) : (ptsN [⟨c, v, ps⟩] ([⟨c, v, ps⟩] : List Po).length).length ≤ 4194304 := by
  simp [ptsN, po]
  omega
/-- Polys of which there are not too many places, whose numbers are of 64 bits. -/
structure Cv (zs : List Po) : Prop where
  few : (ptsN zs zs.length).length ≤ 4194304
  pi : PI (ptsN zs zs.length)
theorem cv_few {zs : List Po} (h : ∀ i, i < zs.length → PI (po zs i).ps ∧ (po zs i).ps.length ≤ 1000) (hl : zs.length ≤ 1000) : Cv zs := by
  refine ⟨?_, pi_ptsN (fun i hi => (h i hi).1) _ (Nat.le_refl _)⟩
  have := ptsN_few (fun i hi => (h i hi).2) _ (Nat.le_refl zs.length)
  omega

end Go.Proofs.Ytopepgifhnfbiaa

namespace Go.Proofs.Ytopepgifhnfbiaa
open Go Go.RowKit
open M

theorem Kz.sl {w wr : World} {base : Nat} {L : List (Bool × List Pt)} {v : Value} (h : Kz w base L v wr) (hf : L.length ≤ 1000) : ∃ zs : List Po, zs.map bareY = L ∧ zs.length = L.length ∧ Ysl wr v zs := by
  obtain ⟨zs, e, h, _⟩ := h
  exact ⟨zs, e, h.len, h.sl hf⟩
theorem po_mem {zs : List Po} {i : Nat} (h : i < zs.length) : po zs i ∈ zs := by
  unfold po
  rw [List.getD_eq_getElem?_getD, List.getElem?_eq_getElem h]
  exact List.getElem_mem h
theorem ps_zs {zs : List Po} {L : List (Bool × List Pt)} (he : zs.map bareY = L) (hp : ∀ y ∈ L, PS y.2) {i : Nat} (hi : i < zs.length) : PS (po zs i).ps := by
  have : bareY (po zs i) ∈ L := by rw [← he]; exact List.mem_map_of_mem (po_mem hi)
  exact hp _ this
theorem pi_zs {zs : List Po} {L : List (Bool × List Pt)} (he : zs.map bareY = L) (hp : ∀ y ∈ L, PS y.2) {i : Nat} (hi : i < zs.length) : PI (po zs i).ps := (ps_zs he hp hi).pj
theorem cv_ps {zs : List Po} (h : ∀ i, i < zs.length → PS (po zs i).ps) (hl : zs.length ≤ 1000) : Cv zs := cv_few (fun i hi => ⟨(h i hi).pj, by have := (h i hi).2; omega⟩) hl
/-- A tape's polys, in memory: few, their numbers of 64 bits; what was there ahead of the tape is as it was. -/
theorem polys_of {w w0 w' : World} {g : Nat} {v : Value} {e : Ending} (h : Plss w g v e w') (hb : Below w0.heap.size w0 w) (hg : w0.heap.size ≤ g) : ∃ (vl : Value) (zs : List Po), e = .returned vl ∧ Ysl w' vl zs ∧ zs.length ≤ 285 ∧ (∀ i, i < zs.length → PI (po zs i).ps) ∧ Below w0.heap.size w0 w' := by
  obtain ⟨L, vl, rfl, hf, hp, hk, _, hgr⟩ := h
  obtain ⟨zs, e, hl, hs⟩ := hk.sl (by omega)
  exact ⟨vl, zs, rfl, hs, by omega, fun i hi => pi_zs e hp hi, below_on hb hgr hg hb.size⟩
/-- The same, of not too many places. -/
theorem polys_cv {w w0 w' : World} {g : Nat} {v : Value} {e : Ending} (h : Plss w g v e w') (hb : Below w0.heap.size w0 w) (hg : w0.heap.size ≤ g) : ∃ (vl : Value) (zs : List Po), e = .returned vl ∧ Ysl w' vl zs ∧ zs.length ≤ 285 ∧ Cv zs ∧ Below w0.heap.size w0 w' := by
  obtain ⟨L, vl, rfl, hf, hp, hk, _, hgr⟩ := h
  obtain ⟨zs, e, hl, hs⟩ := hk.sl (by omega)
  exact ⟨vl, zs, rfl, hs, by omega, cv_ps (fun i hi => ps_zs e hp hi) (by omega), below_on hb hgr hg hb.size⟩
/-- The same, and its numbers are small. -/
theorem polys_small {w w0 w' : World} {g : Nat} {v : Value} {e : Ending} (h : Plss w g v e w') (hb : Below w0.heap.size w0 w) (hg : w0.heap.size ≤ g) : ∃ (vl : Value) (zs : List Po), e = .returned vl ∧ Ysl w' vl zs ∧ zs.length ≤ 285 ∧ (∀ i, i < zs.length → PS (po zs i).ps) ∧ Below w0.heap.size w0 w' := by
  obtain ⟨L, vl, rfl, hf, hp, hk, _, hgr⟩ := h
  obtain ⟨zs, e, hl, hs⟩ := hk.sl (by omega)
  exact ⟨vl, zs, rfl, hs, by omega, fun i hi => ps_zs e hp hi, below_on hb hgr hg hb.size⟩

end Go.Proofs.Ytopepgifhnfbiaa

namespace Go.Proofs.Ytopepgifhnfbiaa
namespace M

/-- On which side of the line from a to b a place lies. -/
def sideW (a b : Pt) (x y : Int) : Int := (b.x - a.x) * (y - a.y) - (x - a.x) * (b.y - a.y)
theorem sideW_neg (a b : Pt) (x y : Int) : sideW b a x y = - sideW a b x y := by
  unfold sideW
  grind
/-- What a side adds. -/
def w1 (x y : Int) (a b : Pt) : Int := if a.y ≤ y ∧ y < b.y ∧ 0 < sideW a b x y then 1 else if b.y ≤ y ∧ y < a.y ∧ sideW a b x y < 0 then -1 else 0
theorem w1_in (x y : Int) (a b : Pt) : -1 ≤ w1 x y a b ∧ w1 x y a b ≤ 1 := by unfold w1; split <;> (try split) <;> omega
theorem w1_neg (x y : Int) (a b : Pt) : w1 x y b a = - w1 x y a b := by
  have e := sideW_neg a b x y
  unfold w1
  by_cases h1 : a.y ≤ y ∧ y < b.y ∧ 0 < sideW a b x y
  · rw [if_pos h1, if_neg (by omega), if_pos (by omega)]
  · rw [if_neg h1]
    by_cases h2 : b.y ≤ y ∧ y < a.y ∧ sideW a b x y < 0
    · rw [if_pos h2, if_pos (by omega)]; rfl
    · rw [if_neg h2, if_neg (by omega), if_neg (by omega)]; rfl
/-- A number of each side of a poly that is closed, added up. -/
def sumS (f : Pt → Pt → Int) (ps : List Pt) : Int := sumN (fun i => f (sa ps i) (sb ps i)) ps.length
theorem sumS_reverse (f : Pt → Pt → Int) (hf : ∀ a b, f b a = - f a b) (ps : List Pt) : sumS f ps.reverse = - sumS f ps := by
  unfold sumS
  rw [List.length_reverse]
  rcases Nat.eq_zero_or_pos ps.length with h0 | h0
  · rw [h0]; rfl
  obtain ⟨n, hn⟩ : ∃ n, ps.length = n + 1 := ⟨ps.length - 1, by omega⟩
  rw [hn]
  show sumN (fun i => f (sa ps.reverse i) (sb ps.reverse i)) n + f (sa ps.reverse n) (sb ps.reverse n) = - (sumN (fun i => f (sa ps i) (sb ps i)) n + f (sa ps n) (sb ps n))
  have e1 : f (sa ps.reverse n) (sb ps.reverse n) = - f (sa ps n) (sb ps n) := by
    unfold sa sb
    rw [List.length_reverse, hn, nxt_last rfl, pt_reverse (by omega), pt_reverse (by omega), hn, show n + 1 - 1 - n = 0 by omega, show n + 1 - 1 - 0 = n by omega, hf]
  have e2 : sumN (fun i => f (sa ps.reverse i) (sb ps.reverse i)) n = sumN (fun i => - f (sa ps (n - 1 - i)) (sb ps (n - 1 - i))) n := sumN_cong fun i hi => by
    unfold sa sb
    rw [List.length_reverse, hn, nxt_in (by omega), nxt_in (by omega), pt_reverse (by omega), pt_reverse (by omega), hn, show n - 1 - i + 1 = n + 1 - 1 - i by omega, show n + 1 - 1 - (i + 1) = n - 1 - i by omega, hf]
  rw [e1, e2, sumN_neg (fun i => f (sa ps (n - 1 - i)) (sb ps (n - 1 - i))), sumN_rev (fun i => f (sa ps i) (sb ps i))]
  omega
theorem sumN_split (f : Nat → Int) (a : Nat) : ∀ b, sumN f (a + b) = sumN f a + sumN (fun i => f (a + i)) b
  | 0 => by simp [sumN]
  | b + 1 => by
    show sumN f (a + b) + f (a + b) = sumN f a + (sumN (fun i => f (a + i)) b + f (a + b))
    rw [sumN_split f a b]; omega
/-- A poly that begins elsewhere. -/
theorem sumS_turn (f : Pt → Pt → Int) {ps qs : List Pt} {k : Nat} (hl : qs.length = ps.length) (hk : k < ps.length) (hq : ∀ i, i < ps.length → pt qs i = pt ps ((i + k) % ps.length)) : sumS f qs = sumS f ps := by
  obtain ⟨n, hn⟩ : ∃ n, ps.length = n := ⟨_, rfl⟩
  unfold sumS
  rw [hl, hn]
  rw [hn] at hl hk hq
  have step : ∀ i, i < n → f (sa qs i) (sb qs i) = f (sa ps ((i + k) % n)) (sb ps ((i + k) % n)) := by
    intro i hi
    unfold sa sb
    rw [hl, hn, hq i hi, hq _ (nxt_lt hi)]
    congr 3
    have hm : (i + k) % n < n := Nat.mod_lt _ (by omega)
    by_cases h1 : i + 1 = n
    · rw [nxt_last h1]
      by_cases h2 : (i + k) % n + 1 = n
      · rw [nxt_last h2]
        have : (i + k) % n = if i + k < n then i + k else i + k - n := by
          split
          · exact Nat.mod_eq_of_lt (by omega)
          · rw [Nat.mod_eq_sub_mod (by omega), Nat.mod_eq_of_lt (by omega)]
        split at this
        · have : k = 0 := by omega
          subst this; simp
        · have : k = n := by omega
          omega
      · rw [nxt_in h2]
        have : (i + k) % n = if i + k < n then i + k else i + k - n := by
          split
          · exact Nat.mod_eq_of_lt (by omega)
          · rw [Nat.mod_eq_sub_mod (by omega), Nat.mod_eq_of_lt (by omega)]
        rw [Nat.mod_eq_of_lt (show 0 + k < n by omega)]
        split at this <;> omega
    · rw [nxt_in h1]
      have e1 : (i + k) % n = if i + k < n then i + k else i + k - n := by
        split
        · exact Nat.mod_eq_of_lt (by omega)
        · rw [Nat.mod_eq_sub_mod (by omega), Nat.mod_eq_of_lt (by omega)]
      have e2 : (i + 1 + k) % n = if i + 1 + k < n then i + 1 + k else i + 1 + k - n := by
        split
        · exact Nat.mod_eq_of_lt (by omega)
        · rw [Nat.mod_eq_sub_mod (by omega), Nat.mod_eq_of_lt (by omega)]
      by_cases h2 : (i + k) % n + 1 = n
      · rw [nxt_last h2]
        split at e1 <;> split at e2 <;> omega
      · rw [nxt_in h2]
        split at e1 <;> split at e2 <;> omega
  rw [sumN_cong step]
  have e3 := sumN_split (fun i => f (sa ps ((i + k) % n)) (sb ps ((i + k) % n))) (n - k) k
  rw [show n - k + k = n by omega] at e3
  have e4 := sumN_split (fun i => f (sa ps i) (sb ps i)) k (n - k)
  rw [show k + (n - k) = n by omega] at e4
  rw [e3, e4]
  have e5 : sumN (fun i => f (sa ps ((i + k) % n)) (sb ps ((i + k) % n))) (n - k) = sumN (fun i => f (sa ps (k + i)) (sb ps (k + i))) (n - k) := sumN_cong fun i hi => by
    rw [Nat.mod_eq_of_lt (by omega), Nat.add_comm]
  have e6 : sumN (fun i => f (sa ps ((n - k + i + k) % n)) (sb ps ((n - k + i + k) % n))) k = sumN (fun i => f (sa ps i) (sb ps i)) k := sumN_cong fun i hi => by
    rw [show n - k + i + k = i + n by omega, Nat.add_mod_right, Nat.mod_eq_of_lt (by omega)]
  rw [e5, e6]
  omega
/-- How often a poly goes round a place. -/
def windP (x y : Int) (ps : List Pt) : Int := sumS (w1 x y) ps
/-- The first n sides of it. -/
def windS (x y : Int) (ps : List Pt) (n : Nat) : Int := sumN (fun i => w1 x y (sa ps i) (sb ps i)) n
theorem windS_step (x y : Int) (ps : List Pt) (n : Nat) : windS x y ps (n + 1) = windS x y ps n + w1 x y (sa ps n) (sb ps n) := rfl
theorem windS_all (x y : Int) (ps : List Pt) : windS x y ps ps.length = windP x y ps := rfl
theorem windS_in (x y : Int) (ps : List Pt) (n : Nat) : -(n : Int) ≤ windS x y ps n ∧ windS x y ps n ≤ n := by
  have := sumN_in (f := fun i => w1 x y (sa ps i) (sb ps i)) (m := 1) (n := n) (fun i _ => w1_in _ _ _ _)
  unfold windS
  omega
theorem windP_few {x y : Int} {ps : List Pt} (h : ps.length < 2) : windP x y ps = 0 := by
  unfold windP sumS
  rcases (show ps.length = 0 ∨ ps.length = 1 by omega) with e | e
  · rw [e]; rfl
  · rw [e]
    show (0 : Int) + w1 x y (sa ps 0) (sb ps 0) = 0
    have : sb ps 0 = sa ps 0 := by unfold sa sb; rw [e, nxt_last rfl]
    rw [this]
    unfold w1
    rw [if_neg (by omega), if_neg (by omega)]; rfl
theorem windP_reverse (x y : Int) (ps : List Pt) : windP x y ps.reverse = - windP x y ps := sumS_reverse _ (fun a b => w1_neg x y a b) ps
theorem windP_turn {x y : Int} {ps qs : List Pt} {k : Nat} (hl : qs.length = ps.length) (hk : k < ps.length) (hq : ∀ i, i < ps.length → pt qs i = pt ps ((i + k) % ps.length)) : windP x y qs = windP x y ps := sumS_turn _ hl hk hq
/-- Of the first n polys. -/
def windN (x y : Int) (f : Nat → List Pt) : Nat → Int := sumN (fun i => windP x y (f i))
theorem windN_step (x y : Int) (f : Nat → List Pt) (n : Nat) : windN x y f (n + 1) = windN x y f n + windP x y (f n) := rfl
theorem windN_cong {x y : Int} {f g : Nat → List Pt} {n : Nat} (h : ∀ i, i < n → f i = g i) : windN x y f n = windN x y g n := sumN_cong fun i hi => by rw [h i hi]
theorem windN_in (x y : Int) (f : Nat → List Pt) {m : Nat} : ∀ {n : Nat}, (∀ i, i < n → (f i).length ≤ m) → -((n * m : Nat) : Int) ≤ windN x y f n ∧ windN x y f n ≤ ((n * m : Nat) : Int) := by
  intro n h
  have := sumN_in (f := fun i => windP x y (f i)) (m := m) (n := n) (fun i hi => by
    have h1 := windS_in x y (f i) (f i).length
    rw [windS_all] at h1
    have := h i hi
    omega)
  unfold windN
  rw [Int.natCast_mul]
  exact this
/-- A side moved with the place. -/
theorem w1_shift (a b : Pt) (x y u v : Int) : w1 (x + u) (y + v) ⟨a.x + u, a.y + v⟩ ⟨b.x + u, b.y + v⟩ = w1 x y a b := by
  have e : sideW ⟨a.x + u, a.y + v⟩ ⟨b.x + u, b.y + v⟩ (x + u) (y + v) = sideW a b x y := by
    unfold sideW
    simp only
    rw [show b.x + u - (a.x + u) = b.x - a.x by omega, show y + v - (a.y + v) = y - a.y by omega, show x + u - (a.x + u) = x - a.x by omega, show b.y + v - (a.y + v) = b.y - a.y by omega]
  unfold w1
  rw [e]
  by_cases h1 : a.y ≤ y ∧ y < b.y ∧ 0 < sideW a b x y
  · rw [if_pos h1, if_pos (by simp only; omega)]
  · rw [if_neg h1, if_neg (by simp only; omega)]
    by_cases h2 : b.y ≤ y ∧ y < a.y ∧ sideW a b x y < 0
    · rw [if_pos h2, if_pos (by simp only; omega)]
    · rw [if_neg h2, if_neg (by simp only; omega)]
/-- Places that stay within Far, moved. -/
theorem windP_shift {x y u v : Int} {ps qs : List Pt} (hl : qs.length = ps.length) (hq : ∀ i, i < ps.length → plc (pt qs i) = ⟨(plc (pt ps i)).x + u, (plc (pt ps i)).y + v⟩) : windP (x + u) (y + v) qs = windP x y ps := by
  unfold windP sumS
  rw [hl]
  refine sumN_cong fun i hi => ?_
  unfold sa sb
  rw [hl, hq i hi, hq _ (nxt_lt hi), w1_shift]

/-- Does a place count that polys go round so often? -/
def countB (rule w : Int) : Bool := (decide (rule = 0) && !decide (w = 0)) || (decide (rule = 1) && !decide (w % 2 = 0))
theorem countB_neg (rule w : Int) : countB rule (-w) = countB rule w := by
  unfold countB
  have e1 : decide (-w = 0) = decide (w = 0) := by rw [Bool.eq_iff_iff, decide_eq_true_eq, decide_eq_true_eq]; omega
  have e2 : decide (-w % 2 = 0) = decide (w % 2 = 0) := by rw [Bool.eq_iff_iff, decide_eq_true_eq, decide_eq_true_eq]; omega
  rw [e1, e2]
/-- Place k of the sixteen of a pixel. -/
def smpX (x : Int) (k : Nat) : Int := x * 65536 + (2 * ((k : Int) % 4) + 1) * 8192
def smpY (y : Int) (k : Nat) : Int := y * 65536 + (2 * ((k : Int) / 4) + 1) * 8192
def nearB (x : Int) : Bool := decide (-256 ≤ x) && decide (x ≤ 256)
theorem nearB_iff {x : Int} : nearB x = true ↔ -256 ≤ x ∧ x ≤ 256 := by unfold nearB; simp
/-- How many of the first k places are within. -/
def covN (W : Int → Int → Int) (rule x y : Int) : Nat → Nat
  | 0 => 0
  | k + 1 => covN W rule x y k + if countB rule (W (smpX x k) (smpY y k)) = true then 1 else 0
def covL (W : Int → Int → Int) (rule x y : Int) : Nat := if (nearB x && nearB y) = true then covN W rule x y 16 else 0
theorem covN_le (W : Int → Int → Int) (rule x y : Int) : ∀ k, covN W rule x y k ≤ k
  | 0 => Nat.le_refl _
  | k + 1 => by
    have := covN_le W rule x y k
    unfold covN
    split <;> omega
theorem covL_le (W : Int → Int → Int) (rule x y : Int) : covL W rule x y ≤ 16 := by
  unfold covL
  split
  · exact covN_le _ _ _ _ _
  · omega
theorem covN_cong {W V : Int → Int → Int} {rule x y x' y' : Int} : ∀ {k : Nat}, (∀ i, i < k → countB rule (W (smpX x i) (smpY y i)) = countB rule (V (smpX x' i) (smpY y' i))) → covN W rule x y k = covN V rule x' y' k
  | 0, _ => rfl
  | k + 1, h => by
    unfold covN
    rw [covN_cong (fun i hi => h i (by omega)), h k (by omega)]
theorem covN_all {W : Int → Int → Int} {rule x y : Int} : ∀ {k : Nat}, (∀ i, i < k → countB rule (W (smpX x i) (smpY y i)) = true) → covN W rule x y k = k
  | 0, _ => rfl
  | k + 1, h => by
    unfold covN
    rw [covN_all (fun i hi => h i (by omega)), if_pos (h k (by omega))]
theorem covN_no {W : Int → Int → Int} {rule x y : Int} : ∀ {k : Nat}, (∀ i, i < k → countB rule (W (smpX x i) (smpY y i)) = false) → covN W rule x y k = 0
  | 0, _ => rfl
  | k + 1, h => by
    unfold covN
    rw [covN_no (fun i hi => h i (by omega)), if_neg (by rw [h k (by omega)]; simp)]
theorem smp_in {x : Int} (h0 : -256 ≤ x) (h1 : x ≤ 256) {k : Nat} (hk : k < 16) : x * 65536 + 8192 ≤ smpX x k ∧ smpX x k ≤ x * 65536 + 57344 ∧ x * 65536 + 8192 ≤ smpY x k ∧ smpY x k ≤ x * 65536 + 57344 ∧ place (smpX x k) = smpX x k ∧ place (smpY x k) = smpY x k := by
  have e1 : x * 65536 + 8192 ≤ smpX x k ∧ smpX x k ≤ x * 65536 + 57344 := by unfold smpX; omega
  have e2 : x * 65536 + 8192 ≤ smpY x k ∧ smpY x k ≤ x * 65536 + 57344 := by unfold smpY; omega
  exact ⟨e1.1, e1.2, e2.1, e2.2, place_in (by omega) (by omega), place_in (by omega) (by omega)⟩
/-- A rectangle of whole pixels. -/
def rectP (x0 y0 x1 y1 : Int) : List Pt := [⟨x0 * 65536, y0 * 65536⟩, ⟨x1 * 65536, y0 * 65536⟩, ⟨x1 * 65536, y1 * 65536⟩, ⟨x0 * 65536, y1 * 65536⟩]
theorem rect_wind {x0 y0 x1 y1 x y : Int} (b0 : -100 ≤ x0) (b1 : x0 ≤ x1) (b2 : x1 ≤ 100) (d0 : -100 ≤ y0) (d1 : y0 ≤ y1) (d2 : y1 ≤ 100) : windP x y (rectP x0 y0 x1 y1) = if x0 * 65536 ≤ x ∧ x < x1 * 65536 ∧ y0 * 65536 ≤ y ∧ y < y1 * 65536 then 1 else 0 := by
  have p : ∀ a : Int, -100 ≤ a → a ≤ 100 → place (a * 65536) = a * 65536 := fun a h1 h2 => place_in (by omega) (by omega)
  have e : windP x y (rectP x0 y0 x1 y1) = 0 + w1 x y ⟨x0 * 65536, y0 * 65536⟩ ⟨x1 * 65536, y0 * 65536⟩ + w1 x y ⟨x1 * 65536, y0 * 65536⟩ ⟨x1 * 65536, y1 * 65536⟩ + w1 x y ⟨x1 * 65536, y1 * 65536⟩ ⟨x0 * 65536, y1 * 65536⟩ + w1 x y ⟨x0 * 65536, y1 * 65536⟩ ⟨x0 * 65536, y0 * 65536⟩ := by
    have q : ∀ i j, plc (⟨i, j⟩ : Pt) = ⟨place i, place j⟩ := fun _ _ => rfl
    unfold windP sumS rectP
    simp only [List.length_cons, List.length_nil]
    simp only [sumN, sa, sb, List.length_cons, List.length_nil, nxt, pt, List.getD_cons_zero, List.getD_cons_succ]
    simp [q, p x0 b0 (by omega), p x1 (by omega) b2, p y0 d0 (by omega), p y1 (by omega) d2]
  have h1 : w1 x y ⟨x0 * 65536, y0 * 65536⟩ ⟨x1 * 65536, y0 * 65536⟩ = 0 := by unfold w1; simp only; rw [if_neg (by omega), if_neg (by omega)]
  have h3 : w1 x y ⟨x1 * 65536, y1 * 65536⟩ ⟨x0 * 65536, y1 * 65536⟩ = 0 := by unfold w1; simp only; rw [if_neg (by omega), if_neg (by omega)]
  have key : ∀ a : Int, sideW ⟨a * 65536, y0 * 65536⟩ ⟨a * 65536, y1 * 65536⟩ x y = (a * 65536 - x) * ((y1 - y0) * 65536) := by
    intro a
    unfold sideW
    simp only
    grind
  have key2 : sideW ⟨x0 * 65536, y1 * 65536⟩ ⟨x0 * 65536, y0 * 65536⟩ x y = (x - x0 * 65536) * ((y1 - y0) * 65536) := by
    unfold sideW
    simp only
    grind
  have h2 : w1 x y ⟨x1 * 65536, y0 * 65536⟩ ⟨x1 * 65536, y1 * 65536⟩ = if x < x1 * 65536 ∧ y0 * 65536 ≤ y ∧ y < y1 * 65536 then 1 else 0 := by
    unfold w1
    rw [key]
    simp only
    by_cases hy : y0 * 65536 ≤ y ∧ y < y1 * 65536
    · have hp : 0 < (y1 - y0) * 65536 := by omega
      by_cases hl : x < x1 * 65536
      · rw [if_pos ⟨hy.1, hy.2, Int.mul_pos (by omega) hp⟩, if_pos ⟨hl, hy⟩]
      · rw [if_neg (fun h => by have := Int.mul_nonpos_of_nonpos_of_nonneg (show x1 * 65536 - x ≤ 0 by omega) (Int.le_of_lt hp); omega), if_neg (by omega), if_neg (by omega)]
    · rw [if_neg (by omega), if_neg (by omega), if_neg (by omega)]
  have h4 : w1 x y ⟨x0 * 65536, y1 * 65536⟩ ⟨x0 * 65536, y0 * 65536⟩ = if x < x0 * 65536 ∧ y0 * 65536 ≤ y ∧ y < y1 * 65536 then -1 else 0 := by
    unfold w1
    rw [key2]
    simp only
    rw [if_neg (by omega)]
    by_cases hy : y0 * 65536 ≤ y ∧ y < y1 * 65536
    · have hp : 0 < (y1 - y0) * 65536 := by omega
      by_cases hl : x < x0 * 65536
      · rw [if_pos ⟨hy.1, hy.2, Int.mul_neg_of_neg_of_pos (by omega) hp⟩, if_pos ⟨hl, hy⟩]
      · rw [if_neg (fun h => by have := Int.mul_nonneg (show 0 ≤ x - x0 * 65536 by omega) (Int.le_of_lt hp); omega), if_neg (by omega)]
    · rw [if_neg (by omega), if_neg (by omega)]
  rw [e, h1, h2, h3, h4]
  by_cases hy : y0 * 65536 ≤ y ∧ y < y1 * 65536
  · by_cases h5 : x < x1 * 65536
    · by_cases h6 : x < x0 * 65536
      · rw [if_pos ⟨h5, hy⟩, if_pos ⟨h6, hy⟩, if_neg (by omega)]; rfl
      · rw [if_pos ⟨h5, hy⟩, if_neg (by omega), if_pos (by omega)]; rfl
    · rw [if_neg (by omega), if_neg (by omega), if_neg (by omega)]; rfl
  · rw [if_neg (by omega), if_neg (by omega), if_neg (by omega)]; rfl

end M
end Go.Proofs.Ytopepgifhnfbiaa

namespace Go.Proofs.Ytopepgifhnfbiaa
open Go Go.RowKit
open M

/-- How often polys go round a place. -/
def windY (x y : Int) (ys : List Po) : Int := windN (place x) (place y) (fun i => (po ys i).ps) ys.length
theorem side_in {a b : Pt} {x y : Int} (h : ∀ p ∈ [a, b], -536870912 ≤ p.x ∧ p.x ≤ 536870912 ∧ -536870912 ≤ p.y ∧ p.y ≤ 536870912) (hx : -536870912 ≤ x ∧ x ≤ 536870912) (hy : -536870912 ≤ y ∧ y ≤ 536870912) :
    (-1152921504606846976 ≤ (b.x - a.x) * (y - a.y) ∧ (b.x - a.x) * (y - a.y) ≤ 1152921504606846976) ∧ -1152921504606846976 ≤ (x - a.x) * (b.y - a.y) ∧ (x - a.x) * (b.y - a.y) ≤ 1152921504606846976 := by
  obtain ⟨a1, a2, a3, a4⟩ := h a (by simp)
  obtain ⟨b1, b2, b3, b4⟩ := h b (by simp)
  have e1 := mul_two (m := 1073741824) (show -1073741824 ≤ b.x - a.x by omega) (by omega) (show -1073741824 ≤ y - a.y by omega) (by omega)
  have e2 := mul_two (m := 1073741824) (show -1073741824 ≤ x - a.x by omega) (by omega) (show -1073741824 ≤ b.y - a.y by omega) (by omega)
  omega
theorem windS_few {x y : Int} {ps : List Pt} {k : Nat} (h : ps.length < 2) (hk : k ≤ ps.length) : windS x y ps k = windP x y ps := by
  rcases (show k = 0 ∨ k = ps.length by omega) with e | e
  · rw [windP_few h, e]; rfl
  · rw [e, windS_all]

theorem r15_near (x : Int) (w : World) : Calls Try.prog 43 #[.int .i64 x] w fun e w' => e = .returned (.bool (nearB x)) ∧ w = w' := by
  by_cases h1 : -256 ≤ x
  · by_cases h2 : x ≤ 256
    · have e : nearB x = true := nearB_iff.2 ⟨h1, h2⟩
      rw [e]
      go_enter Try.func43, Try.ntmps43
      go_wp2
      go_ret
      exact ⟨rfl, rfl⟩
    · have e : nearB x = false := by rw [Bool.eq_false_iff]; intro h; have := nearB_iff.1 h; omega
      rw [e]
      go_enter Try.func43, Try.ntmps43
      go_wp2
      go_ret
      exact ⟨rfl, rfl⟩
  · have e : nearB x = false := by rw [Bool.eq_false_iff]; intro h; have := nearB_iff.1 h; omega
    rw [e]
    go_enter Try.func43, Try.ntmps43
    go_wp2
    go_ret
    exact ⟨rfl, rfl⟩
/-- Two variables of one statement. -/
abbrev vs2 (n m : Nat) (a b : Pt) : List (Nat × Nat × Array Value) := [(n, m, pCells a), (n + 1, m + 1, pCells b)]

set_option maxRecDepth 100000 in
set_option maxHeartbeats 4000000 in
theorem r15_wind {v : Value} {ys : List Po} {w : World} (x y : Int) (h : Ysl w v ys) :
    Calls Try.prog 14 #[v, .int .i64 x, .int .i64 y] w fun r w' => r = .returned (.int .i64 (windY x y ys)) ∧ Below w.heap.size w w' := by
  obtain ⟨N, hN⟩ : ∃ N, ys.length = N := ⟨_, rfl⟩
  obtain ⟨ao, cap, ev⟩ : ∃ ao cap, v = .slice ao N cap := by obtain ⟨ao, cap, e, _⟩ := h; rw [hN] at e; exact ⟨_, _, e⟩
  subst ev
  unfold windY
  rw [hN]
  have HS := Lib.hid h
  have hN1 : N ≤ 1000 := by obtain ⟨_, _, _, hf, _⟩ := h; omega
  have HN1 := Lib.hid hN1
  have HN := Lib.hid hN
  obtain ⟨X, hX⟩ : ∃ X, place x = X := ⟨_, rfl⟩
  obtain ⟨Y, hY⟩ : ∃ Y, place y = Y := ⟨_, rfl⟩
  have XI : Hid (-536870912 ≤ X ∧ X ≤ 536870912) := Lib.hid (hX ▸ ⟨place_lo x, place_hi x⟩)
  have YI : Hid (-536870912 ≤ Y ∧ Y ≤ 536870912) := Lib.hid (hY ▸ ⟨place_lo y, place_hi y⟩)
  obtain ⟨F, hF⟩ : ∃ F, (fun i => (po ys i).ps) = F := ⟨_, rfl⟩
  rw [hX, hY, hF]
  have HX := Lib.hid hX
  have HY := Lib.hid hY
  have HF := Lib.hid hF.symm
  clear h hN hN1 hX hY hF
  go_enter Try.func14, Try.ntmps14
  go_upto_region 1 with fail
  go_wp2_with (first | (go_at_call_of 27 x; refine (r_place _ _).mono ?_; rintro e w' ⟨rfl, rfl⟩) | (go_at_call_of 27 y; refine (r_place _ _).mono ?_; rintro e w' ⟨rfl, rfl⟩))
  rw [HX.out, HY.out]
  go_loopw [7, 8] (fun s i wr => ∃ n : Nat, n ≤ N ∧ i = .int .i64 n ∧ s = .int .i64 (windN X Y F n) ∧ Below w.heap.size w wr) (fun _ i _ => N - (intOf i).toNat)
  case atStart => exact ⟨0, by omega, rfl, rfl, Below.refl _ _⟩
  case round =>
    obtain ⟨n, hn, rfl, rfl, hb⟩ := hrel
    have o0 : (N : Int) ≤ 1000 := by have := HN1.out; omega
    have HB := Lib.hid hb
    obtain ⟨s, hs⟩ : ∃ s, windN X Y F n = s := ⟨_, rfl⟩
    have SI : Hid (-8796093022208000 ≤ s ∧ s ≤ 8796093022208000) := Lib.hid (by
      have h1 := windN_in X Y F (m := 8796093022208) (n := n) (fun i hi => by
        rw [HF.out]
        obtain ⟨g, o, _, r0, l0⟩ := HS.out.row (by omega)
        exact (r0.sl i (by omega)).few)
      rw [hs] at h1
      omega)
    rw [hs]
    have HSN := Lib.hid hs
    clear hs
    by_cases hlt : n < N
    · obtain ⟨g, o, e1, r0, l0⟩ := HS.out.row (by omega)
      subst e1
      have hsl := r0.sl n (by omega)
      have cs := (r0.below hb (by omega)).c1 n (by omega)
      obtain ⟨p, hp⟩ : ∃ p, po ys n = p := ⟨_, rfl⟩
      have HFN : Hid (F n = p.ps) := Lib.hid (by rw [HF.out]; show (po ys n).ps = _; rw [hp])
      rw [hp] at hsl cs
      obtain ⟨c, vy, ps⟩ := p
      simp only at hsl HFN cs
      obtain ⟨K, hK⟩ : ∃ K, ps.length = K := ⟨_, rfl⟩
      obtain ⟨aoy, capy, evy⟩ : ∃ ao cap, vy = .slice ao K cap := by obtain ⟨ao, cap, hv, _⟩ := hsl; rw [hK] at hv; exact ⟨_, _, hv⟩
      subst evy
      have SV := Lib.hid hsl
      have HKL := Lib.hid hK
      have o6 : (K : Int) ≤ 8796093022208 := by have := hsl.few; omega
      have o3 : (n : Int) < N := by omega
      clear r0 l0 hp hsl hK
      go_wp2_with fail
      go_loopw [7, 10] (fun t i wk => ∃ k : Nat, k ≤ K ∧ i = .int .i64 k ∧ t = .int .i64 (s + windS X Y ps k) ∧ Below w.heap.size w wk) (fun _ i _ => K - (intOf i).toNat)
      case atStart => exact ⟨0, by omega, rfl, by rw [show windS X Y ps 0 = 0 from rfl, Int.add_zero], HB.out⟩
      case round =>
        clear cs hb
        obtain ⟨k, hk, rfl, rfl, hb⟩ := hrel
        have HBK := Lib.hid hb
        have hw := windS_in X Y ps k
        obtain ⟨t, ht⟩ : ∃ t, s + windS X Y ps k = t := ⟨_, rfl⟩
        have TI : Hid (-8804889115230208 ≤ t ∧ t ≤ 8804889115230208) := Lib.hid (by have := SI.out; have := SV.out.few; have := HKL.out; omega)
        rw [ht]
        have HT := Lib.hid ht
        clear ht hw
        by_cases hK2 : k < K
        · by_cases h2 : 2 ≤ K
          · obtain ⟨gq, oq, eq, row, -⟩ := (SV.out.below hb (Nat.le_refl _)).row (by omega)
            subst eq
            obtain ⟨j, hj⟩ : ∃ j, nxt K k = j := ⟨_, rfl⟩
            obtain ⟨a, ha⟩ : ∃ a, pt ps k = a := ⟨_, rfl⟩
            obtain ⟨b, hb'⟩ : ∃ b, pt ps j = b := ⟨_, rfl⟩
            have hjl : j < K := by rw [← hj]; exact nxt_lt hK2
            have hmod : Int.tmod ((k : Int) + 1) (K : Int) = (j : Int) := by rw [nxt_mod hK2, hj]
            have PX : Hid (∀ (R : World → Prop) (z : LaterR wr R), (z.to.cell? ⟨gq, oq + k * 2, none⟩ = some (.int .i64 a.x) ∧ z.to.cell? ⟨gq, oq + k * 2 + 1, none⟩ = some (.int .i64 a.y)) ∧ (z.to.cell? ⟨gq, oq + j * 2, none⟩ = some (.int .i64 b.x) ∧ z.to.cell? ⟨gq, oq + j * 2 + 1, none⟩ = some (.int .i64 b.y))) := Lib.hid (fun R z => ⟨row.laterR (by rw [HKL.out]; omega) ha z, row.laterR (by rw [HKL.out]; omega) hb' z⟩)
            have HW1 : Hid (w1 X Y (sa ps k) (sb ps k) = w1 X Y (plc a) (plc b)) := Lib.hid (by unfold sa sb; rw [HKL.out, hj, ha, hb'])
            have o7 : (k : Int) < K := by omega
            have o8 : (2 : Int) ≤ K := by omega
            have o9 : (j : Int) < K := by omega
            have oN : ¬ (K : Int) = 0 := by omega
            clear row hj ha hb' hb
            go_upto_region 10 with fail
            refine wp_region_gen 15 [12, 13, 14] [] [0, 0, 0, 0, 0, 0, 0, 0, 0, 0, 0, 0, 1, 1, 1] (by kernel_rfl) (by kernel_rfl) (fun c a d v w h => by cases d <;> exact h) trivial (fun G w' => Vars wr.heap.size 28 zc2 (vs2 12 14 a b) G w') (fun G w w' h hb => h.stay hb) Vars.start ?_
            apply Exists.intro
            refine ⟨fun R hR hN => ?_, ?_, ?_⟩
            · have A0 := fun z => (PX.out R z).1.1
              have A1 := fun z => (PX.out R z).1.2
              have B0 := fun z => (PX.out R z).2.1
              have B1 := fun z => (PX.out R z).2.2
              simp only [quietL, takeA]
              repeat (go_big_quiet_step (fail))
              exact wpQuiet_nil rfl
            · intro i oo hi ho
              have hi' : i = 12 ∨ i = 13 ∨ i = 14 := by simpa using hi
              clear hi
              rcases hi' with rfl | rfl | rfl
              · cases ho
                intro G w' hG hGn hdep hb hR
                refine ⟨rfl, gives_none (by kernel_rfl) hGn ?_⟩
                unfold gives
                simp [go_sem]
                exact ⟨hb.alloc hb.size _, hR.alloc (i := 12) (s := 14) (cs := pCells a) rfl (by simp) (by intro y hy he; simp at hy; rcases hy with rfl | rfl <;> simp at he ⊢) hG hb.size⟩
              · cases ho
                intro G w' hG hGn hdep hb hR
                refine ⟨rfl, gives_none (by kernel_rfl) hGn ?_⟩
                unfold gives
                simp [go_sem]
                exact ⟨hb.alloc hb.size _, hR.alloc (i := 13) (s := 15) (cs := pCells b) rfl (by simp) (by intro y hy he; simp at hy; rcases hy with rfl | rfl <;> simp at he ⊢) hG hb.size⟩
              · cases ho
                intro G w' hG hGn hdep hb hR
                obtain ⟨v, hv⟩ := Option.ne_none_iff_exists'.1 (hdep 12 (by simp) (by kernel_rfl))
                obtain ⟨gx, rfl, hgx, hhx⟩ := hR.has (12, 14, pCells a) (by simp) v hv
                rw [if_pos hG] at hhx
                refine ⟨rfl, gives_one (k := 12) (by kernel_rfl) hGn (by omega) hv ?_⟩
                have cx0 := hhx.cell 0 _ rfl
                have cx1 := hhx.cell 1 _ rfl
                have fx := has_fro hhx
                unfold gives
                simp [go_sem, dstAt, Act.put, cx0, cx1, fx]
                exact ⟨(hb.setCell hgx _).setCell hgx _, hR.store (i := 12) (s := 14) (za := .int .i64 0) (zb := .int .i64 0) rfl rfl (by simp) (by intro y hy he; simp at hy; rcases hy with rfl | rfl <;> simp at he ⊢) hv hG⟩
            · intro G w3 hb3 hR hG hN
              obtain ⟨v0, e0⟩ := hG 12 (by simp)
              obtain ⟨v1, e1⟩ := hG 13 (by simp)
              obtain ⟨s0, t0⟩ := hG 14 (by simp)
              obtain ⟨g0, rfl, l0, k0⟩ := hR.has (12, 14, pCells a) (by simp) v0 e0
              obtain ⟨g1, rfl, l1, k1⟩ := hR.has (13, 15, pCells b) (by simp) v1 e1
              rw [if_neg (by simp [t0])] at k0
              rw [if_pos (hN 15 (by simp))] at k1
              have n01 : g0 ≠ g1 := fun e => hR.ne (12, 14, pCells a) (by simp) (13, 15, pCells b) (by simp) (by simp) _ e0 (by rw [e1, e])
              have nn : ∀ j, j < 12 → G j = none := fun j hj => hN j (by simp; omega)
              simp only [putV, dstAt, e0, e1, t0, nn 0 (by decide), nn 1 (by decide), nn 2 (by decide), nn 3 (by decide), nn 4 (by decide), nn 5 (by decide), nn 6 (by decide), nn 7 (by decide), nn 8 (by decide), nn 9 (by decide), nn 10 (by decide), nn 11 (by decide), List.drop_succ_cons, List.drop_zero, List.getElem?_cons_succ, List.getElem?_cons_zero, Option.bind_some]
              have c30 := k1.cell 0 _ rfl
              have c31 := k1.cell 1 _ rfl
              have f3 := has_fro k1
              obtain ⟨V, hV⟩ : ∃ V, (w3.setCell ⟨g1, 0, none⟩ (.int .i64 b.x)).setCell ⟨g1, 1, none⟩ (.int .i64 b.y) = V := ⟨_, rfl⟩
              have v0 : Has V g0 (pCells a) 28 := by rw [← hV]; exact two_off k0 (Ne.symm n01) _ _
              have v1 : Has V g1 (pCells b) 28 := by rw [← hV]; exact two_set k1 _ _
              have bV : Below wr.heap.size w3 V := by rw [← hV]; exact below_two l1 _ _
              have V0 := Lib.hid v0
              have V1 := Lib.hid v1
              have HV := Lib.hid hV
              have BV : Hid (Below w.heap.size w V) := Lib.hid (HBK.out.trans ((hb3.trans bV).mono HBK.out.size))
              clear k0 k1 hb3 v0 v1 bV hV l0 l1 hR hG hN nn e0 e1 t0 n01
              go_upto_region 11 with fail
              rw [HV.out]
              clear c30 c31 f3 HV
              have a0 := V0.out.cell 0 _ rfl
              have a1 := V0.out.cell 1 _ rfl
              obtain ⟨ax, ay⟩ := a
              obtain ⟨bx, by'⟩ := b
              go_quiet (first | (go_at_call_of 27 ax; exact quiet1 (r_place ax _)) | (go_at_call_of 27 ay; exact quiet1 (r_place ay _)))
              obtain ⟨Z, hZ⟩ : ∃ Z, V.drewN nq = Z := ⟨_, rfl⟩
              have BZ : Below V.heap.size V Z := by rw [← hZ]; exact below_drewN (Below.refl _ _) _
              have Z1 := V1.out.below BZ V1.out.lt
              have BZ2 : Hid (Below w.heap.size w Z) := Lib.hid (BV.out.trans (BZ.mono BV.out.size))
              rw [hZ]
              have b0 := Z1.cell 0 _ rfl
              have b1 := Z1.cell 1 _ rfl
              clear hZ BZ a0 a1 Z1
              go_upto_region 12 with fail
              go_quiet (first | (go_at_call_of 27 bx; exact quiet1 (r_place bx _)) | (go_at_call_of 27 by'; exact quiet1 (r_place by' _)))
              obtain ⟨Z2, hZ2⟩ : ∃ Z2, Z.drewN nq = Z2 := ⟨_, rfl⟩
              have BZ3 : Hid (Below w.heap.size w Z2) := Lib.hid (by rw [← hZ2]; exact below_drewN BZ2.out _)
              rw [hZ2]
              clear hZ2 b0 b1
              obtain ⟨ax', ex⟩ : ∃ a, place ax = a := ⟨_, rfl⟩
              obtain ⟨ay', ey⟩ : ∃ a, place ay = a := ⟨_, rfl⟩
              obtain ⟨bx', fx⟩ : ∃ a, place bx = a := ⟨_, rfl⟩
              obtain ⟨by2, fy⟩ : ∃ a, place by' = a := ⟨_, rfl⟩
              have PP : Hid (-536870912 ≤ ax' ∧ ax' ≤ 536870912 ∧ -536870912 ≤ ay' ∧ ay' ≤ 536870912 ∧ -536870912 ≤ bx' ∧ bx' ≤ 536870912 ∧ -536870912 ≤ by2 ∧ by2 ≤ 536870912) := Lib.hid (by rw [← ex, ← ey, ← fx, ← fy]; exact ⟨place_lo _, place_hi _, place_lo _, place_hi _, place_lo _, place_hi _, place_lo _, place_hi _⟩)
              have HW2 : Hid (w1 X Y (sa ps k) (sb ps k) = w1 X Y ⟨ax', ay'⟩ ⟨bx', by2⟩) := Lib.hid (by rw [HW1.out, ← ex, ← ey, ← fx, ← fy]; rfl)
              rw [ex, ey, fx, fy]
              clear ex ey fx fy
              have hside := side_in (a := ⟨ax', ay'⟩) (b := ⟨bx', by2⟩) (x := X) (y := Y) (by intro p hp; simp at hp; have := PP.out; rcases hp with rfl | rfl <;> (simp only; omega)) XI.out YI.out
              simp only at hside
              obtain ⟨⟨m1, m2⟩, m3, m4⟩ := hside
              have x1 := XI.out
              have y1 := YI.out
              have p1 := PP.out
              go_upto_region 14 with fail
              clear x1 y1 p1 m1 m2 m3 m4
              obtain ⟨D, hD⟩ : ∃ D, (bx' - ax') * (Y - ay') - (X - ax') * (by2 - ay') = D := ⟨_, rfl⟩
              have EE : Hid (∀ c : Int, (if ay' ≤ Y ∧ Y < by2 ∧ 0 < D then 1 else if by2 ≤ Y ∧ Y < ay' ∧ D < 0 then -1 else 0) = c → s + windS X Y ps (k + 1) = t + c) := Lib.hid (by
                intro c hc
                have h1 : w1 X Y ⟨ax', ay'⟩ ⟨bx', by2⟩ = c := by
                  unfold w1 sideW
                  simp only
                  rw [hD]
                  exact hc
                rw [windS_step, HW2.out, h1, ← HT.out]
                omega)
              rw [hD]
              clear hD
              have t1 := TI.out
              by_cases h1 : ay' ≤ Y
              · by_cases h2' : Y < by2
                · by_cases h3 : 0 < D
                  · have E := EE.out (1) (by first | (rw [if_pos (by omega)]; done) | (rw [if_neg (by omega), if_pos (by omega)]; done) | (rw [if_neg (by omega), if_neg (by omega)]; done))
                    go_wp2
                    go_roundw
                    case rel => exact ⟨k + 1, by omega, by go_num, by first | (rw [E]; done) | (rw [E]; go_num), BZ3.out⟩
                    case measure => simp [intOf]; omega
                  · have E := EE.out (0) (by first | (rw [if_pos (by omega)]; done) | (rw [if_neg (by omega), if_pos (by omega)]; done) | (rw [if_neg (by omega), if_neg (by omega)]; done))
                    go_wp2
                    go_roundw
                    case rel => exact ⟨k + 1, by omega, by go_num, by first | (rw [E]; done) | (rw [E]; go_num), BZ3.out⟩
                    case measure => simp [intOf]; omega
                · have E := EE.out (0) (by first | (rw [if_pos (by omega)]; done) | (rw [if_neg (by omega), if_pos (by omega)]; done) | (rw [if_neg (by omega), if_neg (by omega)]; done))
                  go_wp2
                  go_roundw
                  case rel => exact ⟨k + 1, by omega, by go_num, by first | (rw [E]; done) | (rw [E]; go_num), BZ3.out⟩
                  case measure => simp [intOf]; omega
              · by_cases h2' : by2 ≤ Y
                · by_cases h3 : D < 0
                  · have E := EE.out (-1) (by first | (rw [if_pos (by omega)]; done) | (rw [if_neg (by omega), if_pos (by omega)]; done) | (rw [if_neg (by omega), if_neg (by omega)]; done))
                    go_wp2
                    go_roundw
                    case rel => exact ⟨k + 1, by omega, by go_num, by first | (rw [E]; done) | (rw [E]; go_num), BZ3.out⟩
                    case measure => simp [intOf]; omega
                  · have E := EE.out (0) (by first | (rw [if_pos (by omega)]; done) | (rw [if_neg (by omega), if_pos (by omega)]; done) | (rw [if_neg (by omega), if_neg (by omega)]; done))
                    go_wp2
                    go_roundw
                    case rel => exact ⟨k + 1, by omega, by go_num, by first | (rw [E]; done) | (rw [E]; go_num), BZ3.out⟩
                    case measure => simp [intOf]; omega
                · have E := EE.out (0) (by first | (rw [if_pos (by omega)]; done) | (rw [if_neg (by omega), if_pos (by omega)]; done) | (rw [if_neg (by omega), if_neg (by omega)]; done))
                  go_wp2
                  go_roundw
                  case rel => exact ⟨k + 1, by omega, by go_num, by first | (rw [E]; done) | (rw [E]; go_num), BZ3.out⟩
                  case measure => simp [intOf]; omega
          · have o7 : (k : Int) < K := by omega
            have o8 : ¬ (2 : Int) ≤ K := by omega
            go_wp2
            go_roundw
            case rel => exact ⟨n + 1, by omega, by go_num, by rw [windN_step, HSN.out, HFN.out, ← windS_few (by rw [HKL.out]; omega) (by rw [HKL.out]; exact hk), HT.out], HBK.out⟩
            case measure => simp [intOf]; omega
        · obtain rfl : k = K := by omega
          have o7 : ¬ (k : Int) < k := by omega
          go_wp2
          go_roundw
          case rel => exact ⟨n + 1, by omega, by go_num, by rw [windN_step, HSN.out, HFN.out, ← windS_all, HKL.out, HT.out], HBK.out⟩
          case measure => simp [intOf]; omega
    · obtain rfl : n = N := by omega
      have o3 : ¬ (n : Int) < n := by omega
      go_wp2
      go_ret
      exact ⟨by rw [HSN.out]; rfl, hb⟩

end Go.Proofs.Ytopepgifhnfbiaa

namespace Go.Proofs.Ytopepgifhnfbiaa
open Go Go.RowKit
open M

/-- How much of a pixel polys cover. -/
def covY (rule x y : Int) (ys : List Po) : Nat := covL (fun a b => windY a b ys) rule x y
theorem windY_in {w : World} {v : Value} {ys : List Po} (h : Ysl w v ys) (x y : Int) : -8796093022208000 ≤ windY x y ys ∧ windY x y ys ≤ 8796093022208000 := by
  obtain ⟨ao, cap, rfl, hf, hr⟩ := h
  have h1 := windN_in (place x) (place y) (fun i => (po ys i).ps) (m := 8796093022208) (n := ys.length) (fun i hi => by
    obtain ⟨g, o, _, r⟩ := hr (by omega)
    exact (r.sl i hi).few)
  unfold windY
  omega
theorem nearB_no {x : Int} (h : nearB x = false) : x < -256 ∨ 256 < x := by
  rcases Int.lt_or_le x (-256) with h1 | h1
  · exact Or.inl h1
  · rcases Int.lt_or_le 256 x with h2 | h2
    · exact Or.inr h2
    · rw [nearB_iff.2 ⟨h1, h2⟩] at h; cases h

set_option maxRecDepth 100000 in
set_option maxHeartbeats 4000000 in
theorem r15_cover {v : Value} {ys : List Po} {w : World} (rule x y : Int) (h : Ysl w v ys) :
    Calls Try.prog 22 #[v, .int .i64 rule, .int .i64 x, .int .i64 y] w fun r w' => r = .returned (.int .i64 (covY rule x y ys : Nat)) ∧ Below w.heap.size w w' := by
  have HS := Lib.hid h
  clear h
  by_cases hx : nearB x = true
  · by_cases hy : nearB y = true
    · obtain ⟨x0, x1⟩ := nearB_iff.1 hx
      obtain ⟨y0, y1⟩ := nearB_iff.1 hy
      have EC : Hid (covY rule x y ys = covN (fun a b => windY a b ys) rule x y 16) := Lib.hid (by unfold covY covL; rw [hx, hy]; rfl)
      rw [EC.out]
      have WC := Lib.hid (fun (a b : Int) (w1 : World) (hb : Below w.heap.size w w1) => r15_wind a b (HS.out.below hb))
      have WI := Lib.hid (fun (a b : Int) => windY_in HS.out a b)
      obtain ⟨W, hW⟩ : ∃ W, (fun a b => windY a b ys) = W := ⟨_, rfl⟩
      have eW : ∀ a b, windY a b ys = W a b := fun a b => by rw [← hW]
      simp only [eW] at WC WI
      rw [hW]
      have XN := Lib.hid (show nearB x = true from hx)
      have YN := Lib.hid (show nearB y = true from hy)
      clear hW eW EC hx hy HS
      go_enter Try.func22, Try.ntmps22
      go_wp2_with (first | (go_at_call_of 43 x; refine (r15_near x _).mono ?_; rintro e w' ⟨rfl, rfl⟩; rw [XN.out]) | (go_at_call_of 43 y; refine (r15_near y _).mono ?_; rintro e w' ⟨rfl, rfl⟩; rw [YN.out]))
      go_loopw [9, 10] (fun s i wr => ∃ k : Nat, k ≤ 16 ∧ i = .int .i64 k ∧ s = .int .i64 (covN W rule x y k : Nat) ∧ Below w.heap.size w wr) (fun _ i _ => 16 - (intOf i).toNat)
      case atStart => exact ⟨0, by omega, rfl, rfl, Below.refl _ _⟩
      case round =>
        obtain ⟨k, hk, rfl, rfl, hb⟩ := hrel
        have HB := Lib.hid hb
        have hcn := covN_le W rule x y k
        have hst : covN W rule x y (k + 1) = covN W rule x y k + if countB rule (W (smpX x k) (smpY y k)) = true then 1 else 0 := rfl
        obtain ⟨n, hn⟩ : ∃ n, covN W rule x y k = n := ⟨_, rfl⟩
        rw [hn] at hcn hst ⊢
        have HN := Lib.hid hn
        clear hn
        by_cases hlt : k < 16
        · have o3 : (k : Int) < 16 := by omega
          obtain ⟨W0, hW0⟩ : ∃ z, W (smpX x k) (smpY y k) = z := ⟨_, rfl⟩
          have wi := WI.out (smpX x k) (smpY y k)
          have ST := Lib.hid hst
          have r0 : 0 ≤ Int.tmod (k : Int) 4 ∧ Int.tmod (k : Int) 4 ≤ 3 := by rw [Int.tmod_eq_emod_of_nonneg (by omega)]; omega
          have d0 : 0 ≤ Int.tdiv (k : Int) 4 ∧ Int.tdiv (k : Int) 4 ≤ 3 := by rw [Int.tdiv_eq_ediv_of_nonneg (by omega)]; omega
          have ex : x * 65536 + (2 * Int.tmod (k : Int) 4 + 1) * 65536 / 8 = smpX x k := by unfold smpX; rw [Int.tmod_eq_emod_of_nonneg (by omega)]; omega
          have ey : y * 65536 + (2 * Int.tdiv (k : Int) 4 + 1) * 65536 / 8 = smpY y k := by unfold smpY; rw [Int.tdiv_eq_ediv_of_nonneg (by omega)]; omega
          obtain ⟨p, hp⟩ : ∃ p, Int.tmod (k : Int) 4 = p := ⟨_, rfl⟩
          obtain ⟨q, hq⟩ : ∃ q, Int.tdiv (k : Int) 4 = q := ⟨_, rfl⟩
          rw [hp] at r0 ex
          rw [hq] at d0 ey
          have tp : Int.tdiv ((2 * p + 1) * 65536) 8 = (2 * p + 1) * 65536 / 8 := Int.tdiv_eq_ediv_of_nonneg (by omega)
          have tq : Int.tdiv ((2 * q + 1) * 65536) 8 = (2 * q + 1) * 65536 / 8 := Int.tdiv_eq_ediv_of_nonneg (by omega)
          obtain ⟨P, hP⟩ : ∃ z, (2 * p + 1) * 65536 / 8 = z := ⟨_, rfl⟩
          obtain ⟨Q, hQ⟩ : ∃ z, (2 * q + 1) * 65536 / 8 = z := ⟨_, rfl⟩
          have PQ : (0 ≤ P ∧ P ≤ 65536) ∧ 0 ≤ Q ∧ Q ≤ 65536 := by omega
          rw [hP] at tp ex
          rw [hQ] at tq ey
          have EX := Lib.hid ex
          have EY := Lib.hid ey
          rw [hW0] at wi
          have HW0 := Lib.hid hW0
          clear hP hQ ex ey hst hW0
          go_upto_region 7 with fail
          go_upto_region 8 with (go_at_call 14; rw [EX.out, EY.out]; refine (WC.out _ _ _ HB.out).mono ?_; rintro e w2 ⟨rfl, b2⟩; rw [HW0.out])
          have BW : Hid (Below w.heap.size w w2) := Lib.hid (HB.out.trans (b2.mono HB.out.size))
          have RT : Int.tmod W0 2 = 0 ↔ W0 % 2 = 0 := by
            rcases Int.lt_or_le W0 0 with h | h
            · have e1 := Int.neg_tmod W0 2
              have e2 := Int.tmod_eq_emod_of_nonneg (a := -W0) (b := 2) (by omega)
              omega
            · rw [Int.tmod_eq_emod_of_nonneg h]
          clear tp tq hp hq PQ r0 d0 hb b2
          by_cases h0 : rule = 0
          · subst h0
            by_cases h1 : W0 = 0
            · subst h1
              have E := ST.out; rw [HW0.out, if_neg (by unfold countB; simp [*]), Nat.add_zero] at E
              clear RT
              go_wp2
              go_roundw
              case rel => exact ⟨k + 1, by omega, by go_num, by first | (rw [E]; done) | (rw [E]; go_num), BW.out⟩
              case measure => simp [intOf]; omega
            · have h2 : ¬ W0 = 0 := h1
              have E := ST.out; rw [HW0.out, if_pos (by unfold countB; simp [*])] at E
              clear RT
              go_wp2
              go_roundw
              case rel => exact ⟨k + 1, by omega, by go_num, by first | (rw [E]; done) | (rw [E]; go_num), BW.out⟩
              case measure => simp [intOf]; omega
          · by_cases h1 : rule = 1
            · subst h1
              by_cases h2 : Int.tmod W0 2 = 0
              · have h3 : W0 % 2 = 0 := RT.1 h2
                have E := ST.out; rw [HW0.out, if_neg (by unfold countB; simp [*]), Nat.add_zero] at E
                clear RT
                go_wp2
                go_roundw
                case rel => exact ⟨k + 1, by omega, by go_num, by first | (rw [E]; done) | (rw [E]; go_num), BW.out⟩
                case measure => simp [intOf]; omega
              · have h3 : ¬ W0 % 2 = 0 := fun h => h2 (RT.2 h)
                have E := ST.out; rw [HW0.out, if_pos (by unfold countB; simp [*])] at E
                clear RT
                go_wp2
                go_roundw
                case rel => exact ⟨k + 1, by omega, by go_num, by first | (rw [E]; done) | (rw [E]; go_num), BW.out⟩
                case measure => simp [intOf]; omega
            · have E := ST.out; rw [HW0.out, if_neg (by unfold countB; simp [*]), Nat.add_zero] at E
              clear RT
              go_wp2
              go_roundw
              case rel => exact ⟨k + 1, by omega, by go_num, by first | (rw [E]; done) | (rw [E]; go_num), BW.out⟩
              case measure => simp [intOf]; omega
        · obtain rfl : k = 16 := by omega
          have o3 : ¬ ((16 : Nat) : Int) < 16 := by omega
          go_wp2
          go_ret
          exact ⟨by rw [HN.out]; rfl, hb⟩
    · have e : covY rule x y ys = 0 := by unfold covY covL; rw [Bool.eq_false_iff.2 hy]; simp
      rw [e]
      have XN := Lib.hid (show nearB x = true from hx)
      have YN := Lib.hid (Bool.eq_false_iff.2 hy)
      clear e hx hy
      go_enter Try.func22, Try.ntmps22
      go_wp2_with (first | (go_at_call_of 43 x; refine (r15_near x _).mono ?_; rintro e w' ⟨rfl, rfl⟩; rw [XN.out]) | (go_at_call_of 43 y; refine (r15_near y _).mono ?_; rintro e w' ⟨rfl, rfl⟩; rw [YN.out]))
      go_ret
      exact ⟨rfl, Below.refl _ _⟩
  · have e : covY rule x y ys = 0 := by unfold covY covL; rw [Bool.eq_false_iff.2 hx]; simp
    rw [e]
    have XN := Lib.hid (Bool.eq_false_iff.2 hx)
    clear e hx
    go_enter Try.func22, Try.ntmps22
    go_wp2_with (first | (go_at_call_of 43 x; refine (r15_near x _).mono ?_; rintro e w' ⟨rfl, rfl⟩; rw [XN.out]))
    go_ret
    exact ⟨rfl, Below.refl _ _⟩

end Go.Proofs.Ytopepgifhnfbiaa

namespace Go.Proofs.Ytopepgifhnfbiaa
namespace M

/-- Number i of a list. -/
def nm (ds : List Int) (i : Nat) : Int := ds.getD i 0
theorem nm_cons (d : Int) (ds : List Int) (i : Nat) : nm (d :: ds) (i + 1) = nm ds i := by simp [nm]
theorem nm_zero (d : Int) (ds : List Int) : nm (d :: ds) 0 = d := by simp [nm]
theorem nm_left {ds : List Int} {d : Int} {i : Nat} (h : i < ds.length) : nm (ds ++ [d]) i = nm ds i := by unfold nm; simp [List.getD, List.getElem?_append_left h]
theorem nm_last (ds : List Int) (d : Int) : nm (ds ++ [d]) ds.length = d := by unfold nm; simp [List.getD]
/-- Whether a dash, or a gap, may be so long. -/
def okN (d : Int) : Prop := 65536 ≤ d ∧ d ≤ 67108864
instance (d : Int) : Decidable (okN d) := by unfold okN; infer_instance
def okA (ds : List Int) : Prop := ∀ i, i < ds.length → okN (nm ds i)
instance (ds : List Int) : Decidable (okA ds) := by unfold okA; infer_instance
/-- Right. -/
def okD (ds : List Int) : Bool := decide (ds.length ≤ 8 ∧ okA ds)
theorem okD_many {ds : List Int} (h : 8 < ds.length) : okD ds = false := by unfold okD; rw [decide_eq_false]; omega
theorem okD_bad {ds : List Int} {i : Nat} (hi : i < ds.length) (h : ¬ okN (nm ds i)) : okD ds = false := by
  unfold okD
  rw [decide_eq_false]
  exact fun e => h (e.2 i hi)
theorem okD_yes {ds : List Int} (h8 : ds.length ≤ 8) (h : ∀ i, i < ds.length → okN (nm ds i)) : okD ds = true := by
  unfold okD
  rw [decide_eq_true]
  exact ⟨h8, h⟩
theorem okD_all {ds : List Int} (h : ∀ i, i < ds.length → okN (nm ds i)) : okD ds = decide ((ds.length : Int) ≤ 8) := by
  by_cases h8 : ds.length ≤ 8
  · rw [okD_yes h8 h, decide_eq_true]; omega
  · rw [okD_many (by omega), decide_eq_false]; omega
theorem okD_few {ds : List Int} (h : okD ds = true) : ds.length ≤ 8 ∧ okA ds := by
  unfold okD at h
  simpa using h

/-- Number i, gone through round and round. -/
def tn (ds : List Int) (i : Nat) : Int := nm ds (i % ds.length)
/-- Where dash or gap k begins. -/
def mk (ds : List Int) : Nat → Int
  | 0 => 0
  | k + 1 => mk ds k + tn ds k
theorem mk_zero (ds : List Int) : mk ds 0 = 0 := rfl
theorem mk_step (ds : List Int) (k : Nat) : mk ds (k + 1) = mk ds k + tn ds k := rfl
theorem tn_in {ds : List Int} (h : okD ds = true) (h0 : 0 < ds.length) (i : Nat) : 65536 ≤ tn ds i ∧ tn ds i ≤ 67108864 := (okD_few h).2 _ (Nat.mod_lt _ h0)
theorem mk_in {ds : List Int} (h : okD ds = true) (h0 : 0 < ds.length) : ∀ k : Nat, 0 ≤ mk ds k ∧ mk ds k ≤ k * 67108864
  | 0 => by simp [mk]
  | k + 1 => by
    have ih := mk_in h h0 k
    have t := tn_in h h0 k
    rw [mk_step]
    omega
theorem mk_up {ds : List Int} (h : okD ds = true) (h0 : 0 < ds.length) {i : Nat} : ∀ {j : Nat}, i ≤ j → mk ds i ≤ mk ds j
  | 0, hij => by
    obtain rfl : i = 0 := by omega
    exact Int.le_refl _
  | j + 1, hij => by
    by_cases e : i = j + 1
    · rw [e]; exact Int.le_refl _
    · have ih := mk_up h h0 (i := i) (j := j) (by omega)
      have t := tn_in h h0 j
      rw [mk_step]
      omega
theorem add_mk {ds : List Int} (h : okD ds = true) (h0 : 0 < ds.length) {k : Nat} (hk : k ≤ 200) : add (mk ds k) (tn ds k) = mk ds (k + 1) := by
  have a := mk_in h h0 k
  have t := tn_in h h0 k
  unfold add
  rw [hold_in (a := mk ds k) (by omega) (by omega), hold_in (a := tn ds k) (by omega) (by omega), hold_in (by omega) (by omega), mk_step]
theorem tn_mod {ds : List Int} (i : Nat) : Int.tmod (i : Int) (ds.length : Int) = ((i % ds.length : Nat) : Int) := by
  rw [Int.tmod_eq_emod_of_nonneg (by omega)]
  simp
/-- Dash n. -/
def dashP (c : Bool) (ps : List Pt) (ds : List Int) (n : Nat) : List Pt := cutL c ps (mk ds (2 * n)) (mk ds (2 * n + 1))
theorem dashP_length (c : Bool) (ps : List Pt) (ds : List Int) (n : Nat) : (dashP c ps ds n).length ≤ ps.length + 1 := cutL_length _ _ _ _
/-- The first n dashes. -/
def dashN (c : Bool) (ps : List Pt) (ds : List Int) : Nat → List (Bool × List Pt)
  | 0 => []
  | n + 1 => if mk ds (2 * n) < lengthL c ps ∧ 2 ≤ (dashP c ps ds n).length then dashN c ps ds n ++ [(false, dashP c ps ds n)] else dashN c ps ds n
theorem dashN_zero (c : Bool) (ps : List Pt) (ds : List Int) : dashN c ps ds 0 = [] := rfl
theorem dashN_yes {c : Bool} {ps : List Pt} {ds : List Int} {n : Nat} (h : mk ds (2 * n) < lengthL c ps) (h2 : 2 ≤ (dashP c ps ds n).length) : dashN c ps ds (n + 1) = dashN c ps ds n ++ [(false, dashP c ps ds n)] := if_pos ⟨h, h2⟩
theorem dashN_no {c : Bool} {ps : List Pt} {ds : List Int} {n : Nat} (h2 : ¬ 2 ≤ (dashP c ps ds n).length) : dashN c ps ds (n + 1) = dashN c ps ds n := if_neg fun h => h2 h.2
theorem dashN_off {c : Bool} {ps : List Pt} {ds : List Int} {n : Nat} (h : ¬ mk ds (2 * n) < lengthL c ps) : dashN c ps ds (n + 1) = dashN c ps ds n := if_neg fun e => h e.1
theorem dashN_length (c : Bool) (ps : List Pt) (ds : List Int) : ∀ n, (dashN c ps ds n).length ≤ n
  | 0 => by simp [dashN]
  | n + 1 => by
    have ih := dashN_length c ps ds n
    rw [dashN]
    split
    · simp; omega
    · omega
/-- From the first dash on that would begin at the line's end or behind it nothing comes. -/
theorem dashN_end {c : Bool} {ps : List Pt} {ds : List Int} (h : okD ds = true) (h0 : 0 < ds.length) {n : Nat} (hn : lengthL c ps ≤ mk ds (2 * n)) : ∀ {m : Nat}, n ≤ m → dashN c ps ds m = dashN c ps ds n
  | 0, hm => by
    obtain rfl : n = 0 := by omega
    rfl
  | m + 1, hm => by
    by_cases e : n = m + 1
    · rw [e]
    · have ih := dashN_end h h0 hn (m := m) (by omega)
      have u := mk_up h h0 (i := 2 * n) (j := 2 * m) (by omega)
      rw [dashN_off (by omega), ih]
/-- Of. -/
def dashL (c : Bool) (ps : List Pt) (ds : List Int) : List (Bool × List Pt) := if ds.length = 0 ∨ okD ds = false then [(c, ps)] else dashN c ps ds 64
theorem dashL_none {c : Bool} {ps : List Pt} {ds : List Int} (h : ds.length = 0) : dashL c ps ds = [(c, ps)] := if_pos (Or.inl h)
theorem dashL_bad {c : Bool} {ps : List Pt} {ds : List Int} (h : okD ds = false) : dashL c ps ds = [(c, ps)] := if_pos (Or.inr h)
theorem dashL_some {c : Bool} {ps : List Pt} {ds : List Int} (h0 : 0 < ds.length) (h : okD ds = true) : dashL c ps ds = dashN c ps ds 64 := if_neg fun e => by rcases e with e | e; omega; rw [h] at e; cases e
theorem dashL_length (c : Bool) (ps : List Pt) (ds : List Int) : (dashL c ps ds).length ≤ 64 := by
  unfold dashL
  split
  · simp
  · exact dashN_length _ _ _ _

end M
end Go.Proofs.Ytopepgifhnfbiaa

namespace Go.Proofs.Ytopepgifhnfbiaa
open Go Go.RowKit
open M

/-- The slice's value v holds just these numbers. -/
def Isl (w : World) (v : Value) (ds : List Int) : Prop := ∃ ao cap, v = .slice ao ds.length cap ∧ ds.length ≤ 17592186044416 ∧ (0 < ds.length → ∃ g o, ao = some ⟨g, o, none⟩ ∧ ∀ i, i < ds.length → w.cell? ⟨g, o + i, none⟩ = some (.int .i64 (nm ds i)))
theorem Isl.few {w : World} {v : Value} {ds : List Int} (h : Isl w v ds) : ds.length ≤ 17592186044416 := by
  obtain ⟨_, _, _, h, _⟩ := h
  exact h
theorem Isl.slice {w : World} {v : Value} {ds : List Int} (h : Isl w v ds) : ∃ ao cap, v = .slice ao ds.length cap := by
  obtain ⟨ao, cap, h, _⟩ := h
  exact ⟨ao, cap, h⟩
theorem Isl.blocks {w w' : World} {v : Value} {ds : List Int} (h : Isl w v ds) (hb : ∀ k, k < w.heap.size → v.ownBlock = some k → w'.heap[k]? = w.heap[k]?) : Isl w' v ds := by
  obtain ⟨ao, cap, rfl, hf, hr⟩ := h
  refine ⟨ao, cap, rfl, hf, fun h0 => ?_⟩
  obtain ⟨g, o, rfl, hr'⟩ := hr h0
  exact ⟨g, o, rfl, fun i hi => (World.cell?_of_block (a := ⟨g, _, _⟩) (hb g (World.block_lt_of_cell? w _ (hr' 0 h0)) rfl)).trans (hr' i hi)⟩
theorem Isl.below {w w' : World} {v : Value} {ds : List Int} (h : Isl w v ds) (hb : Below w.heap.size w w') : Isl w' v ds := h.blocks fun k hk _ => hb.block k hk
theorem Isl.alloc {w : World} {v : Value} {ds : List Int} (h : Isl w v ds) (o : Obj) : Isl (w.alloc o) v ds := h.blocks fun k hk _ => (MapKept.heap_alloc w o).2 k hk
theorem Isl.at {w : World} {ao : Option Addr} {N cap : Nat} {ds : List Int} (h : Isl w (.slice ao N cap) ds) (h0 : 0 < N) : ds.length = N ∧ ∃ g o, ao = some ⟨g, o, none⟩ ∧ ∀ i, i < N → w.cell? ⟨g, o + i, none⟩ = some (.int .i64 (nm ds i)) := by
  obtain ⟨ao', cap', e, hf, hr⟩ := h
  simp only [Value.slice.injEq] at e
  obtain ⟨rfl, rfl, rfl⟩ := e
  exact ⟨rfl, hr h0⟩
theorem isl_nil (w : World) (ao : Option Addr) (cap : Nat) : Isl w (.slice ao 0 cap) [] := ⟨ao, cap, rfl, by simp, fun h => by simp at h⟩
theorem isl_lit {w : World} {g n c : Nat} {ds : List Int} {cs : Array Value} {t : TypeId} (hn : ds.length = n) (hf : n ≤ 17592186044416) (h : Has w g cs t) (hc : cs.toList = ds.map (Value.int .i64)) : Isl w (.slice (some ⟨g, 0, none⟩) n c) ds := by
  subst hn
  refine ⟨_, c, rfl, hf, fun _ => ⟨g, 0, rfl, fun i hi => ?_⟩⟩
  rw [Nat.zero_add]
  refine h.cell i _ ?_
  have : cs.toList[i]? = some (.int .i64 (nm ds i)) := by rw [hc]; simp [nm, List.getD, hi]
  simpa using this

end Go.Proofs.Ytopepgifhnfbiaa

namespace Go.Proofs.Ytopepgifhnfbiaa
open Go Go.RowKit
open M

/-- What polys cover of the n pixels from x0 on. -/
def rowN (rule y x0 : Int) (ys : List Po) (n : Nat) : List Int := (List.range n).map fun (i : Nat) => ((covY rule (x0 + (i : Int)) y ys : Nat) : Int)
theorem rowN_length (rule y x0 : Int) (ys : List Po) (n : Nat) : (rowN rule y x0 ys n).length = n := by simp [rowN]
theorem rowN_at {rule y x0 : Int} {ys : List Po} {n i : Nat} (h : i < n) : nm (rowN rule y x0 ys n) i = (covY rule (x0 + (i : Int)) y ys : Nat) := by simp [rowN, nm, List.getD, h]
theorem rowN_succ (rule y x0 : Int) (ys : List Po) (n : Nat) : rowN rule y x0 ys (n + 1) = rowN rule y x0 ys n ++ [((covY rule (x0 + (n : Int)) y ys : Nat) : Int)] := by simp [rowN, List.range_succ]
/-- The row from x0 up to x1. -/
def rowL (rule y x0 x1 : Int) (ys : List Po) : List Int := if x0 < -256 ∨ 256 < x1 then [] else rowN rule y x0 ys (x1 - x0).toNat
theorem rowL_in {rule y x0 x1 : Int} {ys : List Po} (h : -256 ≤ x0) (h1 : x1 ≤ 256) : rowL rule y x0 x1 ys = rowN rule y x0 ys (x1 - x0).toNat := by unfold rowL; rw [if_neg (by omega)]
theorem rowL_none {rule y x0 x1 : Int} {ys : List Po} (h : x1 ≤ x0 ∨ x0 < -256 ∨ 256 < x1) : rowL rule y x0 x1 ys = [] := by
  unfold rowL
  by_cases h1 : x0 < -256 ∨ 256 < x1
  · rw [if_pos h1]
  · rw [if_neg h1, show (x1 - x0).toNat = 0 by omega]; rfl
theorem covY_le (rule x y : Int) (ys : List Po) : covY rule x y ys ≤ 16 := covL_le _ _ _ _

end Go.Proofs.Ytopepgifhnfbiaa

namespace Go.Proofs.Ytopepgifhnfbiaa
namespace M

/-- Which way a side is crossed by the line y. -/
def wayP (a b : Pt) (y : Int) : Int := if a.y ≤ y ∧ y < b.y then 1 else if b.y ≤ y ∧ y < a.y then -1 else 0
theorem wayP_in (a b : Pt) (y : Int) : -1 ≤ wayP a b y ∧ wayP a b y ≤ 1 := by unfold wayP; split <;> (try split) <;> omega
/-- Does the line y meet the side beyond x? -/
def bydP (a b : Pt) (x y : Int) : Bool := (decide (0 < wayP a b y) && decide (0 < sideW a b x y)) || (decide (wayP a b y < 0) && decide (sideW a b x y < 0))
theorem byd_iff {a b : Pt} {x y : Int} : bydP a b x y = true ↔ (a.y ≤ y ∧ y < b.y ∧ 0 < sideW a b x y) ∨ (b.y ≤ y ∧ y < a.y ∧ sideW a b x y < 0) := by
  unfold bydP wayP
  by_cases h1 : a.y ≤ y ∧ y < b.y
  · rw [if_pos h1]; simp; omega
  · rw [if_neg h1]
    by_cases h2 : b.y ≤ y ∧ y < a.y
    · rw [if_pos h2]; simp; omega
    · rw [if_neg h2]; simp; omega
theorem w1_way (x y : Int) (a b : Pt) : w1 x y a b = if bydP a b x y = true then wayP a b y else 0 := by
  unfold w1
  by_cases h1 : a.y ≤ y ∧ y < b.y ∧ 0 < sideW a b x y
  · rw [if_pos h1, if_pos (byd_iff.2 (Or.inl h1))]; unfold wayP; rw [if_pos ⟨h1.1, h1.2.1⟩]
  · rw [if_neg h1]
    by_cases h2 : b.y ≤ y ∧ y < a.y ∧ sideW a b x y < 0
    · rw [if_pos h2, if_pos (byd_iff.2 (Or.inr h2))]; unfold wayP; rw [if_neg (by omega), if_pos ⟨h2.1, h2.2.1⟩]
    · rw [if_neg h2, if_neg (fun h => (byd_iff.1 h).elim h1 h2)]
/-- A side that lies beyond a place lies beyond those ahead of it. -/
theorem byd_back {a b : Pt} {x x' y : Int} (hx : x ≤ x') (h : bydP a b x' y = true) : bydP a b x y = true := by
  rw [byd_iff] at h ⊢
  unfold sideW at *
  rcases h with ⟨h1, h2, h3⟩ | ⟨h1, h2, h3⟩
  · have := Int.mul_le_mul_of_nonneg_right (show x - a.x ≤ x' - a.x by omega) (show 0 ≤ b.y - a.y by omega)
    exact Or.inl ⟨h1, h2, by omega⟩
  · have := Int.mul_le_mul_of_nonpos_right (show x - a.x ≤ x' - a.x by omega) (show b.y - a.y ≤ 0 by omega)
    exact Or.inr ⟨h1, h2, by omega⟩
/-- A side right of a place lies beyond it, if the line crosses it; one left of it doesn't. -/
theorem sideW_two (a b : Pt) (x y : Int) : sideW a b x y = (b.x - x) * (y - a.y) + (a.x - x) * (b.y - y) := by unfold sideW; grind
theorem byd_right {a b : Pt} {x y : Int} (ha : x < a.x) (hb : x < b.x) (hw : wayP a b y ≠ 0) : bydP a b x y = true := by
  rw [byd_iff, sideW_two]
  unfold wayP at hw
  by_cases h1 : a.y ≤ y ∧ y < b.y
  · have p1 := Int.mul_nonneg (show 0 ≤ b.x - x by omega) (show 0 ≤ y - a.y by omega)
    have p2 := Int.mul_pos (show 0 < a.x - x by omega) (show 0 < b.y - y by omega)
    exact Or.inl ⟨h1.1, h1.2, by omega⟩
  · rw [if_neg h1] at hw
    by_cases h2 : b.y ≤ y ∧ y < a.y
    · have p1 := Int.mul_neg_of_pos_of_neg (show 0 < b.x - x by omega) (show y - a.y < 0 by omega)
      have p2 := Int.mul_nonpos_of_nonneg_of_nonpos (show 0 ≤ a.x - x by omega) (show b.y - y ≤ 0 by omega)
      exact Or.inr ⟨h2.1, h2.2, by omega⟩
    · rw [if_neg h2] at hw; omega
theorem byd_left {a b : Pt} {x y : Int} (ha : a.x < x) (hb : b.x < x) : bydP a b x y = false := by
  rw [Bool.eq_false_iff]
  intro h
  rw [byd_iff, sideW_two] at h
  rcases h with ⟨h1, h2, h3⟩ | ⟨h1, h2, h3⟩
  · have p1 := Int.mul_nonpos_of_nonpos_of_nonneg (show b.x - x ≤ 0 by omega) (show 0 ≤ y - a.y by omega)
    have p2 := Int.mul_nonpos_of_nonpos_of_nonneg (show a.x - x ≤ 0 by omega) (show 0 ≤ b.y - y by omega)
    omega
  · have p1 := Int.mul_nonneg_of_nonpos_of_nonpos (show b.x - x ≤ 0 by omega) (show y - a.y ≤ 0 by omega)
    have p2 := Int.mul_nonneg_of_nonpos_of_nonpos (show a.x - x ≤ 0 by omega) (show b.y - y ≤ 0 by omega)
    omega
/-- Above the line or not: a closed poly is crossed as often up as down. -/
def ovP (p : Pt) (y : Int) : Int := if y < p.y then 1 else 0
theorem way_ov (a b : Pt) (y : Int) : wayP a b y = ovP b y - ovP a y := by
  unfold wayP ovP
  by_cases h1 : y < b.y <;> by_cases h2 : y < a.y <;> simp [h1, h2] <;> omega
theorem sumN_sub (f g : Nat → Int) : ∀ n, sumN (fun i => f i - g i) n = sumN f n - sumN g n
  | 0 => rfl
  | n + 1 => by
    show sumN (fun i => f i - g i) n + (f n - g n) = sumN f n + f n - (sumN g n + g n)
    rw [sumN_sub f g n]; omega
theorem sumN_add (f g : Nat → Int) : ∀ n, sumN (fun i => f i + g i) n = sumN f n + sumN g n
  | 0 => rfl
  | n + 1 => by
    show sumN (fun i => f i + g i) n + (f n + g n) = sumN f n + f n + (sumN g n + g n)
    rw [sumN_add f g n]; omega
theorem sumN_zero {f : Nat → Int} : ∀ {n : Nat}, (∀ i, i < n → f i = 0) → sumN f n = 0
  | 0, _ => rfl
  | n + 1, h => by
    show sumN f n + f n = 0
    rw [sumN_zero (fun i hi => h i (by omega)), h n (by omega)]; rfl
theorem sumN_next (g : Nat → Int) (n : Nat) : sumN (fun i => g (nxt n i)) n = sumN g n := by
  rcases n with _ | m
  · rfl
  · show sumN (fun i => g (nxt (m + 1) i)) m + g (nxt (m + 1) m) = sumN g (m + 1)
    rw [sumN_head g m, nxt_last rfl, sumN_cong (g := fun i => g (i + 1)) (fun i hi => by rw [nxt_in (by omega)])]
    omega
theorem sumS_way (y : Int) (ps : List Pt) : sumS (fun a b => wayP a b y) ps = 0 := by
  have e : sumS (fun a b => wayP a b y) ps = sumN (fun i => ovP (plc (pt ps (nxt ps.length i))) y) ps.length - sumN (fun i => ovP (plc (pt ps i)) y) ps.length := by
    rw [← sumN_sub]
    unfold sumS
    refine sumN_cong fun i hi => ?_
    show wayP (sa ps i) (sb ps i) y = _
    rw [way_ov]
    rfl
  rw [e, sumN_next (fun j => ovP (plc (pt ps j)) y)]
  omega

/-- A side: from a to b. -/
abbrev Sd := Pt × Pt
def sumL (f : Sd → Int) : List Sd → Int
  | [] => 0
  | s :: l => f s + sumL f l
theorem sumL_append (f : Sd → Int) : ∀ l m, sumL f (l ++ m) = sumL f l + sumL f m
  | [], m => by simp [sumL]
  | s :: l, m => by
    show f s + sumL f (l ++ m) = f s + sumL f l + sumL f m
    rw [sumL_append f l m]; omega
theorem sumL_cong {f g : Sd → Int} : ∀ {l : List Sd}, (∀ s ∈ l, f s = g s) → sumL f l = sumL g l
  | [], _ => rfl
  | s :: l, h => by
    show f s + sumL f l = g s + sumL g l
    rw [h s (by simp), sumL_cong (fun t ht => h t (by simp [ht]))]
theorem sumL_sub (f g : Sd → Int) : ∀ l, sumL (fun s => f s - g s) l = sumL f l - sumL g l
  | [] => rfl
  | s :: l => by
    show f s - g s + sumL (fun s => f s - g s) l = f s + sumL f l - (g s + sumL g l)
    rw [sumL_sub f g l]; omega
theorem sumL_in {f : Sd → Int} (h : ∀ s, -1 ≤ f s ∧ f s ≤ 1) : ∀ l : List Sd, -(l.length : Int) ≤ sumL f l ∧ sumL f l ≤ l.length
  | [] => by simp [sumL]
  | s :: l => by
    have h1 := h s
    have h2 := sumL_in h l
    show -((s :: l).length : Int) ≤ f s + sumL f l ∧ f s + sumL f l ≤ (s :: l).length
    rw [List.length_cons]
    omega
/-- May lines from y0 to y1 cross it? -/
def sdOk (y0 y1 : Int) (s : Sd) : Bool := decide (minI s.1.y s.2.y ≤ y1) && decide (y0 < maxI s.1.y s.2.y)
theorem sdOk_not {y0 y1 y : Int} {s : Sd} (h : sdOk y0 y1 s = false) (h0 : y0 ≤ y) (h1 : y ≤ y1) : wayP s.1 s.2 y = 0 := by
  unfold sdOk at h
  have m1 := minI_le s.1.y s.2.y
  have m2 := le_maxI s.1.y s.2.y
  simp only [Bool.and_eq_false_iff, decide_eq_false_iff_not] at h
  unfold wayP
  rw [if_neg (by omega), if_neg (by omega)]
/-- Side k of a poly, the first one from its last place to its first. -/
def sideA (ps : List Pt) (k : Nat) : Sd := (plc (pt ps (if k = 0 then ps.length - 1 else k - 1)), plc (pt ps k))
theorem sum_sideA (f : Sd → Int) (ps : List Pt) : sumN (fun i => f (sideA ps i)) ps.length = sumS (fun a b => f (a, b)) ps := by
  unfold sumS
  obtain ⟨n, hn⟩ : ∃ n, ps.length = n := ⟨_, rfl⟩
  rw [hn]
  rcases n with _ | m
  · rfl
  · rw [sumN_head]
    show _ = sumN (fun i => f (sa ps i, sb ps i)) m + f (sa ps m, sb ps m)
    have e0 : sideA ps 0 = (sa ps m, sb ps m) := by unfold sideA sa sb; rw [hn, nxt_last rfl]; rfl
    rw [e0, sumN_cong (g := fun i => f (sa ps i, sb ps i)) (fun i hi => by unfold sideA sa sb; rw [hn, nxt_in (by omega), if_neg (by omega)]; rfl)]
    omega
/-- The first k of them that may be crossed. -/
def sdN (y0 y1 : Int) (ps : List Pt) : Nat → List Sd
  | 0 => []
  | k + 1 => sdN y0 y1 ps k ++ if sdOk y0 y1 (sideA ps k) = true then [sideA ps k] else []
theorem sdN_yes {y0 y1 : Int} {ps : List Pt} {k : Nat} (h : sdOk y0 y1 (sideA ps k) = true) : sdN y0 y1 ps (k + 1) = sdN y0 y1 ps k ++ [sideA ps k] := by rw [sdN, if_pos h]
theorem sdN_no {y0 y1 : Int} {ps : List Pt} {k : Nat} (h : sdOk y0 y1 (sideA ps k) = false) : sdN y0 y1 ps (k + 1) = sdN y0 y1 ps k := by rw [sdN, if_neg (by rw [h]; simp), List.append_nil]
theorem sdN_length (y0 y1 : Int) (ps : List Pt) : ∀ k, (sdN y0 y1 ps k).length ≤ k
  | 0 => Nat.le_refl _
  | k + 1 => by
    have := sdN_length y0 y1 ps k
    unfold sdN
    rw [List.length_append]
    split <;> simp <;> omega
def sdQ (y0 y1 : Int) (ps : List Pt) : List Sd := if ps.length < 2 then [] else sdN y0 y1 ps ps.length
theorem sdQ_length (y0 y1 : Int) (ps : List Pt) : (sdQ y0 y1 ps).length ≤ ps.length := by
  unfold sdQ
  split
  · simp
  · exact sdN_length _ _ _ _
theorem sum_sdN {y0 y1 : Int} {f : Sd → Int} (h0 : ∀ s, sdOk y0 y1 s = false → f s = 0) (ps : List Pt) : ∀ k, sumL f (sdN y0 y1 ps k) = sumN (fun i => f (sideA ps i)) k
  | 0 => rfl
  | k + 1 => by
    show _ = sumN (fun i => f (sideA ps i)) k + f (sideA ps k)
    cases h : sdOk y0 y1 (sideA ps k)
    · rw [sdN_no h, sum_sdN h0 ps k, h0 _ h]; omega
    · rw [sdN_yes h, sumL_append, sum_sdN h0 ps k]; simp [sumL]
theorem sum_sdQ {y0 y1 : Int} {f : Sd → Int} (h0 : ∀ s, sdOk y0 y1 s = false → f s = 0) (h1 : ∀ a, f (a, a) = 0) (ps : List Pt) : sumL f (sdQ y0 y1 ps) = sumS (fun a b => f (a, b)) ps := by
  unfold sdQ
  by_cases h : ps.length < 2
  · rw [if_pos h]
    unfold sumS
    rcases (show ps.length = 0 ∨ ps.length = 1 by omega) with e | e
    · rw [e]; rfl
    · rw [e]
      show (0 : Int) = 0 + f (sa ps 0, sb ps 0)
      have : sb ps 0 = sa ps 0 := by unfold sa sb; rw [e, nxt_last rfl]
      rw [this, h1]; rfl
  · rw [if_neg h, sum_sdN h0, sum_sideA]
/-- Those of the first n polys. -/
def sdR (y0 y1 : Int) (F : Nat → List Pt) : Nat → List Sd
  | 0 => []
  | n + 1 => sdR y0 y1 F n ++ sdQ y0 y1 (F n)
theorem sum_sdR {y0 y1 : Int} {f : Sd → Int} (h0 : ∀ s, sdOk y0 y1 s = false → f s = 0) (h1 : ∀ a, f (a, a) = 0) (F : Nat → List Pt) : ∀ n, sumL f (sdR y0 y1 F n) = sumN (fun i => sumS (fun a b => f (a, b)) (F i)) n
  | 0 => rfl
  | n + 1 => by
    show sumL f (sdR y0 y1 F n ++ sdQ y0 y1 (F n)) = sumN (fun i => sumS (fun a b => f (a, b)) (F i)) n + sumS (fun a b => f (a, b)) (F n)
    rw [sumL_append, sum_sdR h0 h1 F n, sum_sdQ h0 h1]
theorem way_self (a : Pt) (y : Int) : wayP a a y = 0 := by unfold wayP; rw [if_neg (by omega), if_neg (by omega)]
theorem sum_w1 {y0 y1 x y : Int} (h0 : y0 ≤ y) (h1 : y ≤ y1) (F : Nat → List Pt) (n : Nat) : sumL (fun s => w1 x y s.1 s.2) (sdR y0 y1 F n) = windN x y F n := by
  rw [sum_sdR (fun s h => by rw [w1_way, sdOk_not h h0 h1]; simp) (fun a => by simp only [w1_way, way_self]; simp)]
  rfl
theorem sum_way {y0 y1 y : Int} (h0 : y0 ≤ y) (h1 : y ≤ y1) (F : Nat → List Pt) (n : Nat) : sumL (fun s => wayP s.1 s.2 y) (sdR y0 y1 F n) = 0 := by
  rw [sum_sdR (fun s h => sdOk_not h h0 h1) (fun a => way_self a y)]
  exact sumN_zero fun i _ => sumS_way y (F i)

/-- How many of the first n places answer true. -/
def cntF (p : Nat → Bool) : Nat → Nat
  | 0 => 0
  | n + 1 => cntF p n + if p n = true then 1 else 0
theorem cntF_le (p : Nat → Bool) : ∀ n, cntF p n ≤ n
  | 0 => Nat.le_refl _
  | n + 1 => by
    have := cntF_le p n
    unfold cntF
    split <;> omega
theorem cntF_all {p : Nat → Bool} : ∀ {n : Nat}, (∀ i, i < n → p i = true) → cntF p n = n
  | 0, _ => rfl
  | n + 1, h => by unfold cntF; rw [cntF_all (fun i hi => h i (by omega)), if_pos (h n (by omega))]
theorem cntF_at {p : Nat → Bool} {m : Nat} (h1 : ∀ i, i < m → p i = true) : ∀ {n : Nat}, m ≤ n → (∀ i, m ≤ i → i < n → p i = false) → cntF p n = m
  | 0, hm, _ => by
    obtain rfl : m = 0 := by omega
    rfl
  | n + 1, hm, h2 => by
    rcases Nat.lt_or_ge n m with h | h
    · obtain rfl : m = n + 1 := by omega
      exact cntF_all h1
    · unfold cntF
      rw [cntF_at h1 h (fun i hi hn => h2 i hi (by omega)), if_neg (by rw [h2 n h (by omega)]; simp)]
      rfl
/-- Where the answers are true up to a place and false from there on. -/
theorem cntF_iff {p : Nat → Bool} {n : Nat} (hp : ∀ i j, i ≤ j → j < n → p j = true → p i = true) {i : Nat} (hi : i < n) : i < cntF p n ↔ p i = true := by
  have key : ∀ n, (∀ i j, i ≤ j → j < n → p j = true → p i = true) → ∃ m, m ≤ n ∧ (∀ i, i < m → p i = true) ∧ ∀ i, m ≤ i → i < n → p i = false := by
    intro n
    induction n with
    | zero => exact fun _ => ⟨0, Nat.le_refl _, fun i h => by omega, fun i h h2 => by omega⟩
    | succ n ih =>
      intro hp
      obtain ⟨m, hm, h1, h2⟩ := ih (fun i j h hj => hp i j h (by omega))
      cases hq : p n
      · exact ⟨m, by omega, h1, fun i hi hn => by
          rcases Nat.lt_or_ge i n with h | h
          · exact h2 i hi h
          · obtain rfl : i = n := by omega
            exact hq⟩
      · exact ⟨n + 1, Nat.le_refl _, fun i hi => hp i n (by omega) (by omega) hq, fun i h h3 => by omega⟩
  obtain ⟨m, hm, h1, h2⟩ := key n hp
  rw [cntF_at h1 hm h2]
  constructor
  · exact h1 i
  · intro h
    apply Classical.byContradiction
    intro hn
    rw [h2 i (by omega) hi] at h
    cases h

/-- The place of column i of places, from pixel x0 on. -/
def colX (x0 : Int) (i : Nat) : Int := x0 * 65536 + (i : Int) * 16384 + 8192
/-- Up to which of n places a side lies beyond. -/
def fstS (x0 y : Int) (n : Nat) (s : Sd) : Nat := cntF (fun i => bydP s.1 s.2 (colX x0 i) y) n
theorem fstS_le (x0 y : Int) (n : Nat) (s : Sd) : fstS x0 y n s ≤ n := cntF_le _ _
theorem fstS_iff {x0 y : Int} {n : Nat} {s : Sd} {i : Nat} (hi : i < n) : i < fstS x0 y n s ↔ bydP s.1 s.2 (colX x0 i) y = true :=
  cntF_iff (p := fun i => bydP s.1 s.2 (colX x0 i) y) (fun i j h _ hp => byd_back (by unfold colX; omega) hp) hi
/-- What the sides change at place i. -/
def chgL (x0 y : Int) (n : Nat) (l : List Sd) (i : Nat) : Int := sumL (fun s => if fstS x0 y n s = i then - wayP s.1 s.2 y else 0) l
theorem chgL_in (x0 y : Int) (n : Nat) (l : List Sd) (i : Nat) : -(l.length : Int) ≤ chgL x0 y n l i ∧ chgL x0 y n l i ≤ l.length := sumL_in (fun s => by have := wayP_in s.1 s.2 y; split <;> omega) l
theorem chgL_snoc (x0 y : Int) (n : Nat) (l : List Sd) (s : Sd) (i : Nat) : chgL x0 y n (l ++ [s]) i = if fstS x0 y n s = i then chgL x0 y n l i - wayP s.1 s.2 y else chgL x0 y n l i := by
  unfold chgL
  rw [sumL_append]
  simp only [sumL]
  split <;> omega
theorem sumN_hit (c : Nat) (v : Int) : ∀ n, sumN (fun j => if c = j then v else 0) n = if c < n then v else 0
  | 0 => by simp [sumN]
  | n + 1 => by
    show sumN (fun j => if c = j then v else 0) n + (if c = n then v else 0) = _
    rw [sumN_hit c v n]
    split <;> split <;> split <;> omega
theorem chg_swap (x0 y : Int) (n : Nat) (k : Nat) : ∀ l : List Sd, sumN (chgL x0 y n l) k = sumL (fun s => if fstS x0 y n s < k then - wayP s.1 s.2 y else 0) l
  | [] => sumN_zero fun _ _ => rfl
  | s :: l => by
    show sumN (fun j => (if fstS x0 y n s = j then - wayP s.1 s.2 y else 0) + chgL x0 y n l j) k = (if fstS x0 y n s < k then - wayP s.1 s.2 y else 0) + sumL (fun s => if fstS x0 y n s < k then - wayP s.1 s.2 y else 0) l
    rw [sumN_add, sumN_hit, ← chg_swap x0 y n k l]
/-- What the changes up to a place add up to is how often the polys go round it. -/
theorem chg_wind {x0 y y0 y1 : Int} (h0 : y0 ≤ y) (h1 : y ≤ y1) (F : Nat → List Pt) (m : Nat) {n i : Nat} (hi : i < n) : sumN (chgL x0 y n (sdR y0 y1 F m)) (i + 1) = windN (colX x0 i) y F m := by
  rw [chg_swap, ← sum_w1 h0 h1 F m]
  have e := sum_way h0 h1 F m
  have e2 := sumL_sub (fun s => w1 (colX x0 i) y s.1 s.2) (fun s => wayP s.1 s.2 y) (sdR y0 y1 F m)
  rw [e, Int.sub_zero] at e2
  rw [← e2]
  refine sumL_cong fun s _ => ?_
  have h := fstS_iff (x0 := x0) (y := y) (s := s) hi
  simp only [w1_way]
  by_cases hb : bydP s.1 s.2 (colX x0 i) y = true
  · have := h.2 hb
    rw [if_pos hb, if_neg (by omega)]; omega
  · have : ¬ i < fstS x0 y n s := fun h2 => hb (h.1 h2)
    rw [if_neg hb, if_pos (by omega)]; omega

/-- How many of the first i places that lie in pixel p answer true. -/
def addN (c : Nat → Bool) (p : Nat) : Nat → Nat
  | 0 => 0
  | i + 1 => addN c p i + if i / 4 = p ∧ c i = true then 1 else 0
theorem addN_le (c : Nat → Bool) (p : Nat) (i : Nat) : addN c p i ≤ i - 4 * p ∧ addN c p i ≤ 4 := by
  have key : addN c p i ≤ min (i - 4 * p) 4 := by
    induction i with
    | zero => simp [addN]
    | succ i ih =>
      unfold addN
      split <;> omega
  omega
theorem addN_after (c : Nat → Bool) (p : Nat) : ∀ k, addN c p (4 * p + 4 + k) = addN c p (4 * p + 4)
  | 0 => rfl
  | k + 1 => by
    show addN c p (4 * p + 4 + k) + (if (4 * p + 4 + k) / 4 = p ∧ c (4 * p + 4 + k) = true then 1 else 0) = _
    rw [addN_after c p k, if_neg (by omega)]; rfl
theorem addN_ahead (c : Nat → Bool) (p : Nat) (i : Nat) (h : i ≤ 4 * p) : addN c p i = 0 := by have := addN_le c p i; omega
theorem addN_all (c : Nat → Bool) {p m : Nat} (h : p < m) : addN c p (4 * m) = (if c (4 * p) = true then 1 else 0) + (if c (4 * p + 1) = true then 1 else 0) + (if c (4 * p + 2) = true then 1 else 0) + (if c (4 * p + 3) = true then 1 else 0) := by
  obtain ⟨k, hk⟩ : ∃ k, 4 * m = 4 * p + 4 + k := ⟨4 * m - (4 * p + 4), by omega⟩
  rw [hk, addN_after]
  show addN c p (4 * p) + _ + _ + _ + _ = _
  rw [addN_ahead c p _ (Nat.le_refl _)]
  have e : ∀ j, j < 4 → (4 * p + j) / 4 = p := fun j hj => by omega
  rw [show (4 * p) / 4 = p by omega]
  simp only [e 1 (by omega), e 2 (by omega), e 3 (by omega), true_and]
  omega
/-- One line of a pixel's places. -/
theorem covN_line (W : Int → Int → Int) (rule x y : Int) (j : Nat) : covN W rule x y (4 * (j + 1)) = covN W rule x y (4 * j) +
    ((if countB rule (W (colX x 0) (y * 65536 + (j : Int) * 16384 + 8192)) = true then 1 else 0) + (if countB rule (W (colX x 1) (y * 65536 + (j : Int) * 16384 + 8192)) = true then 1 else 0) +
     (if countB rule (W (colX x 2) (y * 65536 + (j : Int) * 16384 + 8192)) = true then 1 else 0) + (if countB rule (W (colX x 3) (y * 65536 + (j : Int) * 16384 + 8192)) = true then 1 else 0)) := by
  have un : covN W rule x y (4 * (j + 1)) = covN W rule x y (4 * j) + (if countB rule (W (smpX x (4 * j + 0)) (smpY y (4 * j + 0))) = true then 1 else 0) + (if countB rule (W (smpX x (4 * j + 1)) (smpY y (4 * j + 1))) = true then 1 else 0) + (if countB rule (W (smpX x (4 * j + 2)) (smpY y (4 * j + 2))) = true then 1 else 0) + (if countB rule (W (smpX x (4 * j + 3)) (smpY y (4 * j + 3))) = true then 1 else 0) := rfl
  rw [un]
  have ex : ∀ c : Nat, c < 4 → smpX x (4 * j + c) = colX x c := fun c hc => by unfold smpX colX; omega
  have ey : ∀ c : Nat, c < 4 → smpY y (4 * j + c) = y * 65536 + (j : Int) * 16384 + 8192 := fun c hc => by unfold smpY; omega
  rw [ex 0 (by omega), ex 1 (by omega), ex 2 (by omega), ex 3 (by omega), ey 0 (by omega), ey 1 (by omega), ey 2 (by omega), ey 3 (by omega)]
  omega
theorem colX_pixel (x0 : Int) (p c : Nat) : colX x0 (4 * p + c) = colX (x0 + p) c := by unfold colX; omega

/-- Places all of which lie right of a place, or all left of it, or none of which its line goes between: nothing goes round it. -/
theorem sumS_right {x y : Int} {ps : List Pt} (h : ∀ p ∈ ps, x < place p.x) : windP x y ps = 0 := by
  have e : windP x y ps = sumS (fun a b => wayP a b y) ps := by
    unfold windP sumS
    refine sumN_cong fun i hi => ?_
    have m : ∀ j, j < ps.length → x < (plc (pt ps j)).x := fun j hj => by
      refine h _ ?_
      unfold pt
      rw [List.getD_eq_getElem?_getD, List.getElem?_eq_getElem hj]
      exact List.getElem_mem hj
    have ha : x < (sa ps i).x := m i hi
    have hb : x < (sb ps i).x := m _ (nxt_lt hi)
    rw [w1_way]
    by_cases hw : wayP (sa ps i) (sb ps i) y = 0
    · simp only [hw]; simp
    · rw [if_pos (byd_right ha hb hw)]
  rw [e, sumS_way]
theorem sumS_left {x y : Int} {ps : List Pt} (h : ∀ p ∈ ps, place p.x < x) : windP x y ps = 0 := by
  unfold windP sumS
  refine sumN_zero fun i hi => ?_
  have m : ∀ j, j < ps.length → (plc (pt ps j)).x < x := fun j hj => by
    refine h _ ?_
    unfold pt
    rw [List.getD_eq_getElem?_getD, List.getElem?_eq_getElem hj]
    exact List.getElem_mem hj
  have ha : (sa ps i).x < x := m i hi
  have hb : (sb ps i).x < x := m _ (nxt_lt hi)
  rw [w1_way, byd_left ha hb]
  simp
theorem sumS_over {x y : Int} {ps : List Pt} (h : (∀ p ∈ ps, y < place p.y) ∨ ∀ p ∈ ps, place p.y ≤ y) : windP x y ps = 0 := by
  unfold windP sumS
  refine sumN_zero fun i hi => ?_
  have m : ∀ j, j < ps.length → pt ps j ∈ ps := fun j hj => by
    unfold pt
    rw [List.getD_eq_getElem?_getD, List.getElem?_eq_getElem hj]
    exact List.getElem_mem hj
  have hw : wayP (sa ps i) (sb ps i) y = 0 := by
    unfold wayP
    rcases h with h | h
    · have a : y < (sa ps i).y := h _ (m i hi)
      have b : y < (sb ps i).y := h _ (m _ (nxt_lt hi))
      rw [if_neg (by omega), if_neg (by omega)]
    · have a : (sa ps i).y ≤ y := h _ (m i hi)
      have b : (sb ps i).y ≤ y := h _ (m _ (nxt_lt hi))
      rw [if_neg (by omega), if_neg (by omega)]
  rw [w1_way, hw]
  simp

end M
end Go.Proofs.Ytopepgifhnfbiaa

namespace Go.Proofs.Ytopepgifhnfbiaa
open Go Go.RowKit
open M

theorem c_asked (x : Int) (w : World) : Calls Try.prog 28 #[.int .i64 x] w fun e w' => e = .returned (.bool (nearB x)) ∧ w = w' := by
  by_cases h1 : -256 ≤ x
  · by_cases h2 : x ≤ 256
    · have e : nearB x = true := nearB_iff.2 ⟨h1, h2⟩
      rw [e]
      go_enter Try.func28, Try.ntmps28
      go_wp2
      go_ret
      exact ⟨rfl, rfl⟩
    · have e : nearB x = false := by rw [Bool.eq_false_iff]; intro h; have := nearB_iff.1 h; omega
      rw [e]
      go_enter Try.func28, Try.ntmps28
      go_wp2
      go_ret
      exact ⟨rfl, rfl⟩
  · have e : nearB x = false := by rw [Bool.eq_false_iff]; intro h; have := nearB_iff.1 h; omega
    rw [e]
    go_enter Try.func28, Try.ntmps28
    go_wp2
    go_ret
    exact ⟨rfl, rfl⟩
theorem c_place {x c : Int} (x0 : -100000 ≤ x) (x1 : x ≤ 100000) (c0 : 0 ≤ c) (c1 : c ≤ 100000) (w : World) : Calls Try.prog 30 #[.int .i64 x, .int .i64 c] w fun e w' => e = .returned (.int .i64 (x * 65536 + c * 16384 + 8192)) ∧ w = w' := by
  go_enter Try.func30, Try.ntmps30
  go_wp2
  go_ret
  exact ⟨rfl, rfl⟩
theorem tmod_two (n : Int) : Int.tmod n 2 = 0 ↔ n % 2 = 0 := by
  rcases Int.lt_or_le n 0 with h | h
  · have e1 := Int.neg_tmod n 2
    have e2 := Int.tmod_eq_emod_of_nonneg (a := -n) (b := 2) (by omega)
    omega
  · rw [Int.tmod_eq_emod_of_nonneg h]
theorem c_within (rule n : Int) (w : World) : Calls Try.prog 29 #[.int .i64 rule, .int .i64 n] w fun e w' => e = .returned (.bool (countB rule n)) ∧ w = w' := by
  by_cases h0 : rule = 0
  · subst h0
    by_cases h1 : n = 0
    · have e : countB 0 n = false := by unfold countB; simp [h1]
      rw [e]
      subst h1
      go_enter Try.func29, Try.ntmps29
      go_wp2
      go_ret
      exact ⟨rfl, rfl⟩
    · have e : countB 0 n = true := by unfold countB; simp [h1]
      rw [e]
      go_enter Try.func29, Try.ntmps29
      go_wp2
      go_ret
      exact ⟨by simp [h1], rfl⟩
  · by_cases h1 : rule = 1
    · subst h1
      have RT := tmod_two n
      obtain ⟨m, hm⟩ : ∃ m, Int.tmod n 2 = m := ⟨_, rfl⟩
      rw [hm] at RT
      by_cases h2 : m = 0
      · have e : countB 1 n = false := by unfold countB; simp [RT.1 h2]
        rw [e]
        clear RT
        go_enter Try.func29, Try.ntmps29
        go_wp2
        go_ret
        exact ⟨rfl, rfl⟩
      · have e : countB 1 n = true := by unfold countB; have : ¬ n % 2 = 0 := fun h => h2 (RT.2 h); simp [this]
        rw [e]
        clear RT
        go_enter Try.func29, Try.ntmps29
        go_wp2
        go_ret
        exact ⟨by simp [h2], rfl⟩
    · have e : countB rule n = false := by unfold countB; simp [h0, h1]
      rw [e]
      go_enter Try.func29, Try.ntmps29
      go_wp2
      go_ret
      exact ⟨rfl, rfl⟩
set_option maxHeartbeats 1000000 in
theorem c_held (p : Pt) (w : World) :
    Calls Try.prog 45 #[.agg (pCells p)] w fun r w' => r = .returned (.agg (pCells (plc p))) ∧ Below w.heap.size w w' := by
  obtain ⟨x, y⟩ := p
  go_enter Try.func45, Try.ntmps45
  go_wp2
  refine wp_region_draws_tail 7 (by kernel_rfl) (by kernel_rfl) (by kernel_rfl) (by kernel_rfl) ?_
  simp only [List.take_succ_cons, List.take_zero, List.drop_succ_cons, List.drop_zero]
  repeat (go_big_quiet_step (first | (go_at_call 23; exact quiet1 (q_place _ _))))
  refine wpQuiet_nil ?_
  rintro _ ⟨nq, rfl⟩
  obtain ⟨w1, hw1⟩ : ∃ w1, w.drewN nq = w1 := ⟨_, rfl⟩
  have hs : w.heap.size = w1.heap.size := by rw [← hw1]; rfl
  have hb : Below w.heap.size w w1 := by rw [← hw1]; exact below_drewN (Below.refl _ _) _
  change wpList _ _ _ _ _ (((w.drewN nq).alloc _).alloc _)
  rw [hw1]
  have HB := Lib.hid hb
  clear hb hw1
  go_wp2
  refine bodyPost_ret (v := .agg #[.int .i64 (place x), .int .i64 (place y)]) (by simp [results, Try.results45, go_sem, hs]) rfl ⟨rfl, ?_⟩
  repeat (first | exact HB.out | refine Below.alloc ?_ (by first | (simp [hs]; done) | (simp [hs]; omega)) _)

/-- A side's cells. -/
abbrev dCells (s : Sd) : Array Value := #[.int .i64 s.1.x, .int .i64 s.1.y, .int .i64 s.2.x, .int .i64 s.2.y]
set_option maxHeartbeats 1000000 in
theorem c_way (s : Sd) (y : Int) (w : World) :
    Calls Try.prog 26 #[.agg (dCells s), .int .i64 y] w fun r w' => r = .returned (.int .i64 (wayP s.1 s.2 y)) ∧ Below w.heap.size w w' := by
  obtain ⟨⟨ax, ay⟩, bx, bY⟩ := s
  have HB := Lib.hid ((Below.refl w.heap.size w).alloc (Nat.le_refl _) (.cells #[.int .i64 ax, .int .i64 ay, .int .i64 bx, .int .i64 bY] 57))
  unfold wayP
  simp only
  by_cases h1 : ay ≤ y
  · by_cases h2 : y < bY
    · rw [if_pos ⟨h1, h2⟩]
      go_enter Try.func26, Try.ntmps26
      go_wp2
      go_ret
      exact ⟨rfl, HB.out⟩
    · rw [if_neg (by omega)]
      by_cases h3 : bY ≤ y
      · rw [if_neg (by omega)]
        go_enter Try.func26, Try.ntmps26
        go_wp2
        go_ret
        exact ⟨rfl, HB.out⟩
      · omega
  · rw [if_neg (by omega)]
    by_cases h3 : bY ≤ y
    · rw [if_pos (by omega)]
      go_enter Try.func26, Try.ntmps26
      go_wp2
      go_ret
      exact ⟨rfl, HB.out⟩
    · rw [if_neg (by omega)]
      go_enter Try.func26, Try.ntmps26
      go_wp2
      go_ret
      exact ⟨rfl, HB.out⟩
/-- A side whose numbers are held. -/
def SdOk (s : Sd) : Prop := ∀ p ∈ [s.1, s.2], -536870912 ≤ p.x ∧ p.x ≤ 536870912 ∧ -536870912 ≤ p.y ∧ p.y ≤ 536870912
theorem sdOk_plc (a b : Pt) : SdOk (plc a, plc b) := by
  intro p hp
  simp only [List.mem_cons, List.not_mem_nil, or_false] at hp
  rcases hp with rfl | rfl <;> exact ⟨place_lo _, place_hi _, place_lo _, place_hi _⟩
set_option maxHeartbeats 4000000 in
theorem c_beyond (s : Sd) (x y : Int) (hs : SdOk s) (hx : -536870912 ≤ x ∧ x ≤ 536870912) (hy : -536870912 ≤ y ∧ y ≤ 536870912) (w : World) :
    Calls Try.prog 25 #[.agg (dCells s), .int .i64 x, .int .i64 y] w fun r w' => r = .returned (.bool (bydP s.1 s.2 x y)) ∧ Below w.heap.size w w' := by
  obtain ⟨W, hW⟩ : ∃ W, w.alloc (.cells (dCells s) 57) = W := ⟨_, rfl⟩
  obtain ⟨B, hB⟩ : ∃ B, w.heap.size = B := ⟨_, rfl⟩
  have ha : Has W B (dCells s) 57 := by rw [← hW]; exact has_new hB
  have hb : Below w.heap.size w W := by rw [← hW]; exact (Below.refl _ _).alloc (Nat.le_refl _) _
  have WY := Lib.hid (fun w => c_way s y w)
  have wi := wayP_in s.1 s.2 y
  obtain ⟨⟨m1, m2⟩, m3, m4⟩ := side_in (a := s.1) (b := s.2) hs hx hy
  obtain ⟨a1, a2, a3, a4⟩ := hs s.1 (by simp)
  obtain ⟨b1, b2, b3, b4⟩ := hs s.2 (by simp)
  have EB : Hid (∀ W D, wayP s.1 s.2 y = W → sideW s.1 s.2 x y = D → bydP s.1 s.2 x y = ((decide (0 < W) && decide (0 < D)) || (decide (W < 0) && decide (D < 0)))) := Lib.hid (fun W D h1 h2 => by unfold bydP; rw [h1, h2])
  obtain ⟨V, hV⟩ : ∃ V, wayP s.1 s.2 y = V := ⟨_, rfl⟩
  rw [hV] at WY wi EB
  obtain ⟨⟨ax, ay⟩, bx, bY⟩ := s
  simp only [sideW] at m1 m2 m3 m4 a1 a2 a3 a4 b1 b2 b3 b4 EB
  obtain ⟨R, hR⟩ : ∃ R, bydP (⟨ax, ay⟩ : Pt) ⟨bx, bY⟩ x y = R := ⟨_, rfl⟩
  rw [hR] at EB
  simp only
  rw [hR]
  have HW := Lib.hid hW
  have HB := Lib.hid hb
  have HA := Lib.hid ha
  obtain ⟨x1, x2⟩ := hx
  obtain ⟨y1, y2⟩ := hy
  clear hs hW hb ha hV hR
  go_enter Try.func25, Try.ntmps25
  go_upto_region 1 with fail
  rw [HW.out]
  clear hB
  have c0 := HA.out.cell 0 _ rfl
  have c1 := HA.out.cell 1 _ rfl
  have c2 := HA.out.cell 2 _ rfl
  have c3 := HA.out.cell 3 _ rfl
  go_upto_region 2 with fail
  obtain ⟨D, hD⟩ : ∃ D, (bx - ax) * (y - ay) - (x - ax) * (bY - ay) = D := ⟨_, rfl⟩
  have EC := Lib.hid (EB.out V D rfl hD)
  rw [hD]
  have HA2 : Hid (∀ w', Below W.heap.size W w' → Has w' B #[.int .i64 ax, .int .i64 ay, .int .i64 bx, .int .i64 bY] 57) := Lib.hid (fun w' hb => HA.out.below hb HA.out.lt)
  clear hD m1 m2 m3 m4 a1 a2 a3 a4 b1 b2 b3 b4 x1 x2 y1 y2
  by_cases hv : 0 < V
  · go_wp2_with fail
    refine (WY.out _).mono ?_
    rintro r w1 ⟨rfl, hq⟩
    have Q1 := Lib.hid (HB.out.trans (hq.mono HB.out.size))
    have hc := HA2.out _ hq
    have d0 := hc.cell 0 _ rfl
    have d1 := hc.cell 1 _ rfl
    have d2 := hc.cell 2 _ rfl
    have d3 := hc.cell 3 _ rfl
    clear c0 c1 c2 c3 hq
    by_cases hd : 0 < D
    · have E : R = true := by rw [EC.out]; simp [hv, hd]
      subst E
      clear hc
      go_wp2
      go_ret
      exact ⟨rfl, Q1.out⟩
    · have E : R = false := by rw [EC.out]; simp; omega
      subst E
      have hn : ¬ V < 0 := by omega
      have HC := Lib.hid hc
      clear hc
      go_wp2_with fail
      refine (WY.out _).mono ?_
      rintro r w2 ⟨rfl, hq⟩
      have Q2 := Lib.hid (Q1.out.trans (hq.mono Q1.out.size))
      clear hq d0 d1 d2 d3
      go_wp2
      go_ret
      exact ⟨by rw [decide_eq_false (show ¬ 0 < D by omega)]; rfl, Q2.out⟩
  · go_wp2_with fail
    refine (WY.out _).mono ?_
    rintro r w1 ⟨rfl, hq⟩
    have Q1 := Lib.hid (HB.out.trans (hq.mono HB.out.size))
    have hc := HA2.out _ hq
    have d0 := hc.cell 0 _ rfl
    have d1 := hc.cell 1 _ rfl
    have d2 := hc.cell 2 _ rfl
    have d3 := hc.cell 3 _ rfl
    clear c0 c1 c2 c3 hq hc
    go_wp2_with fail
    refine (WY.out _).mono ?_
    rintro r w2 ⟨rfl, hq⟩
    have Q2 := Lib.hid (Q1.out.trans (hq.mono Q1.out.size))
    clear hq d0 d1 d2 d3
    by_cases hn : V < 0
    · by_cases hd : D < 0
      · have E : R = true := by rw [EC.out]; simp [hn, hd]
        subst E
        go_wp2
        go_ret
        exact ⟨rfl, Q2.out⟩
      · have E : R = false := by rw [EC.out]; simp; omega
        subst E
        go_wp2
        go_ret
        exact ⟨by rw [decide_eq_false (show ¬ D < 0 by omega)]; rfl, Q2.out⟩
    · have E : R = false := by rw [EC.out]; simp; omega
      subst E
      go_wp2
      go_ret
      exact ⟨rfl, Q2.out⟩

end Go.Proofs.Ytopepgifhnfbiaa

namespace Go.Proofs.Ytopepgifhnfbiaa
open Go Go.RowKit
open M

set_option maxHeartbeats 4000000 in
theorem c_search {n : Nat} {p : Nat → Bool} {S A B : Nat} {w : World} (hn : n ≤ 1000000) (hp : ∀ i j, i ≤ j → j < n → p j = true → p i = true)
    (hf : ∀ i, i < n → ∀ w', Below w.heap.size w w' → Calls Try.prog 60 #[.int .i64 (i : Nat), .pointer (some ⟨S, 0, none⟩), .pointer (some ⟨A, 0, none⟩), .pointer (some ⟨B, 0, none⟩)] w' fun e w'' => e = .returned (.bool (!p i)) ∧ Below w'.heap.size w' w'') :
    Calls Try.prog 59 #[.int .i64 (n : Nat), .func (.func 60) #[] #[.pointer (some ⟨S, 0, none⟩), .pointer (some ⟨A, 0, none⟩), .pointer (some ⟨B, 0, none⟩)]] w fun e w' => e = .returned (.int .i64 (cntF p n : Nat)) ∧ Below w.heap.size w w' := by
  have HF := Lib.hid hf
  have HP := Lib.hid hp
  have o0 : (n : Int) ≤ 1000000 := by omega
  clear hf hp hn
  go_enter Try.func59, Try.ntmps59
  go_wp2_with fail
  go_loopw [5, 6] (fun s5 s6 wr => ∃ lo hi : Nat, s5 = .int .i64 lo ∧ s6 = .int .i64 hi ∧ lo ≤ hi ∧ hi ≤ n ∧ Hid (∀ t, t < lo → p t = true) ∧ Hid (∀ t, hi ≤ t → t < n → p t = false) ∧ Below w.heap.size w wr) (fun s5 s6 _ => (intOf s6 - intOf s5).toNat)
  case atStart => exact ⟨0, n, rfl, rfl, by omega, by omega, Lib.hid (fun t ht => by omega), Lib.hid (fun t h1 h2 => by omega), Below.refl _ _⟩
  case round =>
    obtain ⟨lo, hi, rfl, rfl, hlh, hin, I1, I2, hb⟩ := hrel
    have HB := Lib.hid hb
    clear hb
    by_cases hlt : lo < hi
    · obtain ⟨m, hm⟩ : ∃ m, (lo + hi) / 2 = m := ⟨_, rfl⟩
      have hc := HF.out m (by omega) _ HB.out
      have em : ((lo : Int) + (hi : Int)) / 2 = (m : Int) := by omega
      have HM := Lib.hid hm
      clear hm
      cases hq : p m
      · rw [hq] at hc
        have HQ := Lib.hid hq
        have HC := Lib.hid hc
        clear hc hq
        go_wp2_with fail
        refine HC.out.mono ?_
        rintro e w1 ⟨rfl, hb1⟩
        have B1 := Lib.hid (HB.out.trans (hb1.mono HB.out.size))
        clear hb1
        go_wp2
        go_roundw
        case rel => exact ⟨lo, m, rfl, rfl, by have := HM.out; omega, by have := HM.out; omega, I1, Lib.hid (fun t ht htn => by
          cases h : p t
          · rfl
          · have := HP.out m t ht htn h; rw [HQ.out] at this; cases this), B1.out⟩
        case measure => have := HM.out; simp [intOf]; omega
      · rw [hq] at hc
        have HQ := Lib.hid hq
        have HC := Lib.hid hc
        clear hc hq
        go_wp2_with fail
        refine HC.out.mono ?_
        rintro e w1 ⟨rfl, hb1⟩
        have B1 := Lib.hid (HB.out.trans (hb1.mono HB.out.size))
        clear hb1
        go_wp2
        go_roundw
        case rel => exact ⟨m + 1, hi, by go_num, rfl, by have := HM.out; omega, hin, Lib.hid (fun t ht => HP.out t m (by omega) (by have := HM.out; omega) HQ.out), I2, B1.out⟩
        case measure => have := HM.out; simp [intOf]; omega
    · obtain rfl : hi = lo := by omega
      have E : Hid (cntF p n = hi) := Lib.hid (cntF_at I1.out hin I2.out)
      have o3 : ¬ (hi : Int) < hi := by omega
      go_wp2
      go_ret
      exact ⟨by rw [E.out]; rfl, HB.out⟩
theorem stillB {P : Program} {f : FuncId} {args : Array Value} {w : World} {v : Value} (h : Calls P f args w fun e w' => e = .returned v ∧ w = w') : Calls P f args w fun e w' => e = .returned v ∧ Below w.heap.size w w' := h.mono fun _ _ ⟨a, b⟩ => ⟨a, b ▸ Below.refl _ _⟩
/-- The question that is asked of each place: does the side lie beyond it no more? -/
theorem c_ask {s : Sd} {S A B : Nat} {x0 y : Int} {w : World} (hs : SdOk s) (h0 : -1000 ≤ x0) (h1 : x0 ≤ 1000) (hy : -536870912 ≤ y ∧ y ≤ 536870912) (kS : Has w S (dCells s) 57) (kA : Has w A #[.int .i64 x0] 3) (kB : Has w B #[.int .i64 y] 2) {i : Nat} (hi : i ≤ 10000) :
    Calls Try.prog 60 #[.int .i64 (i : Nat), .pointer (some ⟨S, 0, none⟩), .pointer (some ⟨A, 0, none⟩), .pointer (some ⟨B, 0, none⟩)] w fun e w' => e = .returned (.bool (!bydP s.1 s.2 (colX x0 i) y)) ∧ Below w.heap.size w w' := by
  have P1 := Lib.hid (fun w => c_place (x := x0) (c := i) (by omega) (by omega) (by omega) (by omega) w)
  have P2 := Lib.hid (fun w => c_beyond s (colX x0 i) y hs (by unfold colX; omega) hy w)
  have e : x0 * 65536 + (i : Int) * 16384 + 8192 = colX x0 i := rfl
  rw [e] at P1
  obtain ⟨X, hX⟩ : ∃ X, colX x0 i = X := ⟨_, rfl⟩
  obtain ⟨b, hb⟩ : ∃ b, bydP s.1 s.2 (colX x0 i) y = b := ⟨_, rfl⟩
  rw [hb] at P2 ⊢
  rw [hX] at P1 P2
  obtain ⟨⟨ax, ay⟩, bx, bY⟩ := s
  clear e hX hb hs h0 h1 hi hy
  go_enter Try.func60, Try.ntmps60
  go_wp2_with fail
  have r0 := Later.read kS 0 _ rfl
  have r1 := Later.read kS 1 _ rfl
  have r2 := Later.read kS 2 _ rfl
  have r3 := Later.read kS 3 _ rfl
  have a0 := Later.read kA 0 _ rfl
  have b0 := Later.read kB 0 _ rfl
  refine wp_region_class (C := fun w' => ∃ z : Later w, w' = z.to) (by kernel_rfl) (by kernel_rfl) ⟨⟨_, below_drew (Below.refl _ _)⟩, rfl⟩ ?_
  repeat (go_big_quiet_step (first | (go_at_call 30; exact Later.calls (stillB (P1.out _))) | (go_at_call 25; exact Later.calls (P2.out _))))
  refine wpQuiet_nil ?_
  rintro _ ⟨z, rfl⟩
  go_wp2
  go_ret
  exact ⟨rfl, z.below⟩

end Go.Proofs.Ytopepgifhnfbiaa

namespace Go.Proofs.Ytopepgifhnfbiaa
open Go Go.RowKit
open M

/-- Side i of a list. -/
def sd (ls : List Sd) (i : Nat) : Sd := ls.getD i default
theorem sd_cons (l : Sd) (ls : List Sd) (i : Nat) : sd (l :: ls) (i + 1) = sd ls i := by simp [sd]
theorem sd_zero (l : Sd) (ls : List Sd) : sd (l :: ls) 0 = l := by simp [sd]
theorem sd_mem {ls : List Sd} {i : Nat} (h : i < ls.length) : sd ls i ∈ ls := by
  unfold sd
  rw [List.getD_eq_getElem?_getD, List.getElem?_eq_getElem h]
  exact List.getElem_mem h
def dl (l : Sd) : List Value := [.int .i64 l.1.x, .int .i64 l.1.y, .int .i64 l.2.x, .int .i64 l.2.y]
def dls (ls : List Sd) : List Value := ls.flatMap dl
theorem dls_cons (l : Sd) (ls : List Sd) : dls (l :: ls) = dl l ++ dls ls := by simp [dls]
theorem dls_append (ls ms : List Sd) : dls (ls ++ ms) = dls ls ++ dls ms := by simp [dls]
theorem dl_length (l : Sd) : (dl l).length = 4 := rfl
theorem dls_length (ls : List Sd) : (dls ls).length = ls.length * 4 := by
  induction ls with
  | nil => rfl
  | cons l ls ih => rw [dls_cons, List.length_append, ih, dl_length, List.length_cons]; omega
theorem dls_at {ls : List Sd} {i j : Nat} (hi : i < ls.length) (hj : j < 4) : (dls ls)[i * 4 + j]? = (dl (sd ls i))[j]? := by
  induction ls generalizing i with
  | nil => simp at hi
  | cons l ls ih =>
    rw [dls_cons]
    cases i with
    | zero => rw [sd_zero, Nat.zero_mul, Nat.zero_add, List.getElem?_append_left (by rw [dl_length]; exact hj)]
    | succ i =>
      rw [sd_cons, List.getElem?_append_right (by rw [dl_length]; omega)]
      rw [← ih (by simpa using hi)]
      congr 1
      rw [dl_length]; omega
theorem ones_dl (l : Sd) : ∀ u ∈ dl l, u.oneCell' = true := by
  intro u hu
  simp [dl] at hu
  rcases hu with rfl | rfl | rfl | rfl <;> rfl
/-- A row of sides lies in block g from cell o on. -/
structure Drow (w : World) (g o : Nat) (ls : List Sd) : Prop where
  c0 : ∀ i, i < ls.length → w.cell? ⟨g, o + i * 4, none⟩ = some (.int .i64 (sd ls i).1.x)
  c1 : ∀ i, i < ls.length → w.cell? ⟨g, o + i * 4 + 1, none⟩ = some (.int .i64 (sd ls i).1.y)
  c2 : ∀ i, i < ls.length → w.cell? ⟨g, o + i * 4 + 2, none⟩ = some (.int .i64 (sd ls i).2.x)
  c3 : ∀ i, i < ls.length → w.cell? ⟨g, o + i * 4 + 3, none⟩ = some (.int .i64 (sd ls i).2.y)
theorem Drow.lt {w : World} {g o : Nat} {ls : List Sd} (h : Drow w g o ls) (hn : 0 < ls.length) : g < w.heap.size := World.block_lt_of_cell? w _ (h.c0 0 hn)
theorem drow_of {w : World} {g o : Nat} {ls : List Sd} (h : ∀ j u, (dls ls)[j]? = some u → w.cell? ⟨g, o + j, none⟩ = some u) : Drow w g o ls := by
  have key : ∀ i j u, i < ls.length → j < 4 → (dl (sd ls i))[j]? = some u → w.cell? ⟨g, o + i * 4 + j, none⟩ = some u := by
    intro i j u hi hj hu
    rw [Nat.add_assoc]
    exact h _ _ ((dls_at hi hj).trans hu)
  exact ⟨fun i hi => key i 0 _ hi (by omega) rfl, fun i hi => key i 1 _ hi (by omega) rfl, fun i hi => key i 2 _ hi (by omega) rfl, fun i hi => key i 3 _ hi (by omega) rfl⟩
theorem Drow.block {w w' : World} {g o : Nat} {ls : List Sd} (h : Drow w g o ls) (hb : w'.heap[g]? = w.heap[g]?) : Drow w' g o ls := by
  have key : ∀ j, w'.cell? ⟨g, j, none⟩ = w.cell? ⟨g, j, none⟩ := fun j => World.cell?_of_block (a := ⟨g, _, _⟩) hb
  exact ⟨fun i hi => (key _).trans (h.c0 i hi), fun i hi => (key _).trans (h.c1 i hi), fun i hi => (key _).trans (h.c2 i hi), fun i hi => (key _).trans (h.c3 i hi)⟩
/-- The slice's value v holds just these sides. -/
def Dsl (w : World) (v : Value) (ls : List Sd) : Prop := ∃ ao cap, v = .slice ao ls.length cap ∧ (0 < ls.length → ∃ g o, ao = some ⟨g, o, none⟩ ∧ Drow w g o ls)
theorem Dsl.below {w w' : World} {v : Value} {ls : List Sd} (h : Dsl w v ls) (hb : Below w.heap.size w w') : Dsl w' v ls := by
  obtain ⟨ao, cap, rfl, hr⟩ := h
  refine ⟨ao, cap, rfl, fun h0 => ?_⟩
  obtain ⟨g, o, e, hr'⟩ := hr h0
  exact ⟨g, o, e, hr'.block (hb.block g (hr'.lt h0))⟩
theorem Dsl.row {w : World} {ao : Option Addr} {N cap : Nat} {ls : List Sd} (h : Dsl w (.slice ao N cap) ls) (hn : 0 < N) : ∃ g o, ao = some ⟨g, o, none⟩ ∧ Drow w g o ls ∧ ls.length = N := by
  obtain ⟨ao', cap', hv, hr⟩ := h
  simp at hv
  obtain ⟨rfl, hl, rfl⟩ := hv
  obtain ⟨g, o, e, hr⟩ := hr (by omega)
  exact ⟨g, o, e, hr, hl.symm⟩
theorem Dsl.slice {w : World} {v : Value} {ls : List Sd} (h : Dsl w v ls) : ∃ ao cap, v = .slice ao ls.length cap := by
  obtain ⟨ao, cap, e, _⟩ := h
  exact ⟨ao, cap, e⟩
/-- The value v of a call's own holds just these sides, in its own blocks from 'base' on. -/
def Down (t : TypeId) (w : World) (base : Nat) (v : Value) (ls : List Sd) : Prop := w.ownsRow base t 4 v ls.length (dls ls)
theorem Down.sl {t : TypeId} {w : World} {base : Nat} {v : Value} {ls : List Sd} (h : Down t w base v ls) : Dsl w v ls := by
  rcases h.2 with ⟨rfl, hn⟩ | ⟨g, cap, cur, rfl, _, hg, _, _, _, ht⟩
  · exact ⟨none, 0, by rw [hn], fun h0 => by omega⟩
  · refine ⟨_, cap, rfl, fun _ => ⟨g, 0, rfl, drow_of fun j u hu => ?_⟩⟩
    rw [Nat.zero_add, cell_of_row w g j cur _ _ hg]
    rw [← ht, List.getElem?_take] at hu
    split at hu
    · simpa using hu
    · cases hu
theorem Down.nil (t : TypeId) (w : World) (base : Nat) : Down t w base (.slice none 0 0) [] := World.ownsRow_nil _ _ _ _
theorem Down.below {t : TypeId} {w w' : World} {B B' : Nat} {v : Value} {ls : List Sd} (h : Down t w B v ls) (hb : Below B' w w') (hB : w.heap.size ≤ B') : Down t w' B v ls :=
  World.ownsRow.kept h (grownBy_below hb hB) (by by_cases e : v.ownBlock = none; exact Or.inl e; exact Or.inr e)
theorem Down.base {t : TypeId} {w : World} {B : Nat} {v : Value} {ls : List Sd} (h : Down t w B v ls) (k : Nat) (hk : v.ownBlock = some k) : B ≤ k ∧ k < w.heap.size := World.ownsRow.lt h k hk
theorem Down.lower {t : TypeId} {w : World} {B B' : Nat} {v : Value} {ls : List Sd} (h : Down t w B v ls) (hB : B' ≤ B) : Down t w B' v ls := by
  refine ⟨h.1, ?_⟩
  rcases h.2 with h | ⟨g, cap, cur, a, b, r⟩
  · exact Or.inl h
  · exact Or.inr ⟨g, cap, cur, a, by omega, r⟩
theorem Down.len {t : TypeId} {w : World} {B : Nat} {v : Value} {ls : List Sd} (h : Down t w B v ls) : ∃ ao cap, v = .slice ao ls.length cap := by
  rcases h.2 with ⟨rfl, hn⟩ | ⟨g, cap, cur, rfl, _⟩
  · exact ⟨none, 0, by rw [hn]⟩
  · exact ⟨_, cap, rfl⟩
/-- What is told of a type of sides. -/
def SdInfo (t st : TypeId) : Prop := (Try.prog.info? t).map (fun i => (i.zero, i.size, i.bytes)) = some (some (.agg #[.int .i64 0, .int .i64 0, .int .i64 0, .int .i64 0]), 4, 32) ∧ Try.prog.underlying st = some (.slice t)
theorem wpList_append_sd {W : World} {base : Nat} {t st : TypeId} (hI : SdInfo t st) {l : Value} {ls : List Sd} {ops : Array Oper} {rest : List Oper} {op : Oper} {a : Act} {Q : Exit → Act → World → Prop} (hgd : op.guard = none) (s x : Operand)
    (hop : op.op = .call { callee := .builtin .append, args := #[s, x], argTypes := #[st, st] }) (N : Nat) (hN : ls.length = N) (hs : a.eval s = l) (H : Nat) (hx : a.eval x = .slice (some ⟨H, 0, none⟩) 1 1)
    (y : Sd) (cs : Array Value) (hn : Has W H cs t) (hcs : cs.toList = dl y) (hT : Down t W base l ls) (hf : N ≤ 8000000) (hb : base ≤ W.heap.size)
    (h : ∀ g' cap' w', Down t w' base (.slice (some ⟨g', 0, none⟩) (N + 1) cap') (ls ++ [y]) → W.grownBy w' l.ownBlock → (l.ownBlock = some g' ∨ g' = W.heap.size) → wpList Try.prog ops Q rest (a.put op.dst (.slice (some ⟨g', 0, none⟩) (N + 1) cap')) w') : wpList Try.prog ops Q (op :: rest) a W := by
  obtain ⟨i0, hi, hz0, hz1, hz2⟩ := info_parts hI.1
  subst hN
  refine wpList_plain hgd fun _ hK => wp_append_lies W s x st hop base t i0 _ 4 32 hI.2 hi hz0 hz1 hz2 rfl (by decide) l ls.length (dls ls) hs hT ⟨H, 0, none⟩ 1 1 (dl y) hx rfl ?_ (ones_dl y) (by decide) (by unfold maxLen; omega) (by omega) hb _ rfl ?_
  · intro j u hu
    rw [Addr.add_lit, Nat.zero_add]
    refine hn.cell j u ?_
    rw [← hcs] at hu
    simpa using hu
  intro g' cap' w' hown' hg hw _
  refine hK _ _ (h g' cap' w' ?_ hg hw)
  unfold Down
  rw [List.length_append, dls_append]
  have e : dls [y] = dl y := by simp [dls]
  rw [e]
  exact hown'
/-- The value v is a list of this side alone, in a block of the call's own. -/
def OneD (t : TypeId) (base : Nat) (l : Sd) (v : Value) (w : World) : Prop := ∃ g, v = .slice (some ⟨g, 0, none⟩) 1 1 ∧ base ≤ g ∧ Has w g (dCells l) t
theorem OneD.stay {t : TypeId} {base : Nat} {l : Sd} {v : Value} {w w' : World} (h : OneD t base l v w) (hb : Below w.heap.size w w') : OneD t base l v w' := by
  obtain ⟨g, e, l, k⟩ := h
  exact ⟨g, e, l, k.below hb k.lt⟩
/-- A list of just these sides, of the call's own, is returned. -/
def GivesD (t : TypeId) (w : World) (ls : List Sd) (e : Ending) (w' : World) : Prop := ∃ u, e = .returned u ∧ Down t w' w.heap.size u ls ∧ Below w.heap.size w w'

end Go.Proofs.Ytopepgifhnfbiaa

namespace Go.Proofs.Ytopepgifhnfbiaa
open Go Go.RowKit
open M

/-- Numbers of the call's own. -/
def Kown15 (w : World) (base : Nat) (v : Value) (xs : List Int) : Prop := w.ownsRow base 3 1 v xs.length (xs.map (Value.int .i64))
theorem Kown15.sl {w : World} {B : Nat} {v : Value} {xs : List Int} (h : Kown15 w B v xs) (hf : xs.length ≤ 8796093022208) : Isl w v xs := by
  have hf : xs.length ≤ 17592186044416 := by omega
  rcases h.2 with ⟨rfl, hn⟩ | ⟨g, cap, cur, rfl, _, hg, _, _, _, ht⟩
  · exact ⟨none, 0, by rw [hn], hf, fun h0 => by omega⟩
  · refine ⟨_, cap, rfl, hf, fun _ => ⟨g, 0, rfl, fun i hi => ?_⟩⟩
    have hu : (xs.map (Value.int .i64))[i]? = some (.int .i64 (nm xs i)) := by simp [nm, List.getD, hi]
    rw [Nat.zero_add, cell_of_row w g i cur _ _ hg]
    rw [← ht, List.getElem?_take] at hu
    split at hu
    · simpa using hu
    · cases hu
theorem Kown15.nil (w : World) (base : Nat) : Kown15 w base (.slice none 0 0) [] := World.ownsRow_nil _ _ _ _
theorem Kown15.alloc {w : World} {B : Nat} {v : Value} {xs : List Int} (h : Kown15 w B v xs) (o : Obj) : Kown15 (w.alloc o) B v xs := World.ownsRow.alloc h o
theorem Kown15.base {w : World} {B : Nat} {v : Value} {xs : List Int} (h : Kown15 w B v xs) (k : Nat) (hk : v.ownBlock = some k) : B ≤ k ∧ k < w.heap.size := World.ownsRow.lt h k hk
theorem Kown15.below {w w' : World} {B : Nat} {v : Value} {xs : List Int} (h : Kown15 w B v xs) (hb : Below w.heap.size w w') : Kown15 w' B v xs := by
  refine World.ownsRow.kept h (grownBy_below hb (Nat.le_refl _)) ?_
  by_cases e : v.ownBlock = none
  · exact Or.inl e
  · exact Or.inr e
theorem Kown15.len {w : World} {B : Nat} {v : Value} {xs : List Int} (h : Kown15 w B v xs) : ∃ ao cap, v = .slice ao xs.length cap := by
  rcases h.2 with ⟨rfl, hn⟩ | ⟨g, cap, cur, rfl, _⟩
  · exact ⟨none, 0, by rw [hn]⟩
  · exact ⟨_, cap, rfl⟩
theorem Try.infoInt15 : (Try.prog.info? 3).map (fun i => (i.zero, i.size, i.bytes)) = some (some (.int .i64 0), 1, 8) := by kernel_rfl
/-- One number more. -/
theorem wpList_append_int {W : World} {B : Nat} {l : Value} {xs : List Int} {ops : Array Oper} {rest : List Oper} {op : Oper} {a : Act} {Q : Exit → Act → World → Prop} (hgd : op.guard = none) (s x : Operand)
    (hop : op.op = .call { callee := .builtin .append, args := #[s, x], argTypes := #[33, 33] }) (hs : a.eval s = l) (H : Nat) (hx : a.eval x = .slice (some ⟨H, 0, none⟩) 1 1) (y : Int) (hn : Has W H #[.int .i64 y] 3)
    (ho : Kown15 W B l xs) (hf : xs.length ≤ 900) (hb : B ≤ W.heap.size)
    (h : ∀ t' w', Kown15 w' B t' (xs ++ [y]) → W.grownBy w' l.ownBlock → wpList Try.prog ops Q rest (a.put op.dst t') w') : wpList Try.prog ops Q (op :: rest) a W := by
  obtain ⟨j0, hj, hy0, hy1, hy2⟩ := info_parts Try.infoInt15
  refine wpList_append_near _ hgd s x 33 hop B 3 j0 (.int .i64 0) 1 8 Try.underlying33 hj hy0 hy1 hy2 rfl (by decide) l xs.length (xs.map (Value.int .i64)) hs ho ⟨H, 0, none⟩ 1 1 [.int .i64 y] hx rfl ?_ ?_ ?_ ?_ hb ?_
  · intro j u hu
    rw [Addr.add_lit, Nat.zero_add]
    exact hn.cell j u (by simpa using hu)
  · intro u hu
    simp at hu
    subst hu
    rfl
  · unfold maxLen; omega
  · omega
  · intro t' w' ho' hg _
    exact h t' w' (by unfold Kown15; simpa using ho') hg

end Go.Proofs.Ytopepgifhnfbiaa

namespace Go.Proofs.Ytopepgifhnfbiaa
open Go Go.RowKit
open M

/-- The cells of N numbers told by F. -/
def rowA (F : Nat → Int) (N : Nat) : Array Value := (Array.range N).map fun i => .int .i64 (F i)
theorem rowA_size (F : Nat → Int) (N : Nat) : (rowA F N).size = N := by simp [rowA]
theorem rowA_at {F : Nat → Int} {N i : Nat} (h : i < N) : (rowA F N)[i]? = some (.int .i64 (F i)) := by simp [rowA, h]
theorem rowA_set {F G : Nat → Int} {N i : Nat} {x : Int} (h1 : G i = x) (h2 : ∀ j, j ≠ i → G j = F j) : (rowA F N).setIfInBounds i (.int .i64 x) = rowA G N := by
  apply Array.ext_getElem?
  intro j
  rw [Array.getElem?_setIfInBounds]
  by_cases hj : j < N
  · rw [rowA_at hj, rowA_at hj]
    by_cases e : i = j
    · subst e
      rw [if_pos rfl, if_pos (by rw [rowA_size]; exact hj), h1]
    · rw [if_neg e, h2 j (Ne.symm e)]
  · rw [Array.getElem?_eq_none (by rw [rowA_size]; omega), Array.getElem?_eq_none (by rw [rowA_size]; omega)]
    split
    · rw [if_neg (by rw [rowA_size]; omega)]
    · rfl
theorem rowA_cong {F G : Nat → Int} {N : Nat} (h : ∀ i, i < N → F i = G i) : rowA F N = rowA G N := by
  apply Array.ext_getElem?
  intro j
  by_cases hj : j < N
  · rw [rowA_at hj, rowA_at hj, h j hj]
  · rw [Array.getElem?_eq_none (by rw [rowA_size]; omega), Array.getElem?_eq_none (by rw [rowA_size]; omega)]
theorem rowA_zero (n : Nat) : madeCells #[.int .i64 0] n = rowA (fun _ => 0) n := by
  apply Array.ext_getElem?
  intro j
  by_cases hj : j < n
  · rw [rowA_at hj]
    simp [madeCells, hj, Nat.mod_one]
  · rw [Array.getElem?_eq_none (by simp [madeCells]; omega), Array.getElem?_eq_none (by rw [rowA_size]; omega)]
theorem make_ints {n : Nat} (hn : n ≤ 1000000) (w : World) : (Instr.makeSlice 33 (.int .i64 (n : Int)) (.int .i64 (n : Int))).run Try.prog w = .ok (.slice (some ⟨w.heap.size, 0, none⟩) n n) (w.alloc (.cells (rowA (fun _ => 0) n) 3)) := by
  obtain ⟨i0, hi, hz0, hz1, hz2⟩ := info_parts Try.infoInt15
  have h := run_make (P := Try.prog) w 33 3 i0 _ Try.underlying33 hi hz0 .i64 .i64 n n (by omega) (Int.le_refl _) (by rw [hz2]; omega) (by omega)
  rw [hz1] at h
  simp only [Int.toNat_natCast, Nat.mul_one] at h
  rw [show madeCells (Value.int .i64 0).cells n = rowA (fun _ => 0) n from rowA_zero n] at h
  exact h
theorem isl_row {w : World} {g N : Nat} {F : Nat → Int} {ds : List Int} {t : TypeId} (h : Has w g (rowA F N) t) (hl : ds.length = N) (hN : N ≤ 1000000) (hF : ∀ i, i < N → nm ds i = F i) (c : Nat) : Isl w (.slice (some ⟨g, 0, none⟩) N c) ds := by
  subst hl
  refine ⟨_, c, rfl, by omega, fun _ => ⟨g, 0, rfl, fun i hi => ?_⟩⟩
  rw [Nat.zero_add, hF i hi]
  exact h.cell i _ (rowA_at hi)

end Go.Proofs.Ytopepgifhnfbiaa

namespace Go.Proofs.Ytopepgifhnfbiaa
open Go Go.RowKit
open M

theorem infoD : SdInfo 57 54 := ⟨by kernel_rfl, Try.underlying54⟩
/-- What holds in a round: the list, and the place that the next side goes from, in block G. -/
structure DR (w : World) (o : Value) (ls : List Sd) (G : Nat) (a : Pt) (wr : World) : Prop where
  own : Down 57 wr w.heap.size o ls
  kg : Has wr G (pCells a) 28
  lo : w.heap.size ≤ G
  ne : o.ownBlock ≠ some G
  below : Below w.heap.size w wr
theorem DR.later {w wr w' : World} {o : Value} {ls : List Sd} {G : Nat} {a : Pt} (h : DR w o ls G a wr) (hb : Below wr.heap.size wr w') : DR w o ls G a w' :=
  ⟨h.own.below hb (Nat.le_refl _), h.kg.below hb h.kg.lt, h.lo, h.ne, h.below.trans (hb.mono h.below.size)⟩
theorem DR.put {w wr : World} {o : Value} {ls : List Sd} {G : Nat} {a : Pt} (h : DR w o ls G a wr) (b : Pt) : DR w o ls G b ((wr.setCell ⟨G, 0, none⟩ (.int .i64 b.x)).setCell ⟨G, 1, none⟩ (.int .i64 b.y)) := by
  have hs : wr.grownBy ((wr.setCell ⟨G, 0, none⟩ (.int .i64 b.x)).setCell ⟨G, 1, none⟩ (.int .i64 b.y)) (some G) := grownBy_set (grownBy_set (World.grownBy.refl _ _) _ _) _ _
  refine ⟨World.ownsRow.kept h.own hs (Or.inr h.ne), two_set h.kg _ _, h.lo, h.ne, (h.below.setCell h.lo _).setCell h.lo _⟩
theorem DR.grow {w wr w' : World} {o : Value} {ls : List Sd} {G : Nat} {a : Pt} (h : DR w o ls G a wr) {s : Sd} {g' n' cap' : Nat} (ho : Down 57 w' w.heap.size (.slice (some ⟨g', 0, none⟩) n' cap') (ls ++ [s])) (hg : wr.grownBy w' o.ownBlock) (hw : o.ownBlock = some g' ∨ g' = wr.heap.size) : DR w (.slice (some ⟨g', 0, none⟩) n' cap') (ls ++ [s]) G a w' := by
  refine ⟨ho, (hg.block G h.kg.lt (fun e => h.ne e.symm)).trans h.kg, h.lo, fun e => ?_, h.below.grown hg h.below.size (fun k e => (h.own.base k e).1)⟩
  have e1 : some g' = some G := e
  simp at e1
  subst e1
  rcases hw with e2 | e2
  · exact h.ne e2
  · have := h.kg.lt; omega
theorem sd_total {F : Nat → List Pt} {y0 y1 : Int} {ys : List Po} (hF : ∀ i, F i = (po ys i).ps) : ∀ n, (sdR y0 y1 F n).length ≤ (ptsN ys n).length
  | 0 => Nat.le_refl _
  | n + 1 => by
    have h1 := sd_total (y0 := y0) (y1 := y1) hF n
    have h2 := sdQ_length y0 y1 (F n)
    rw [hF n] at h2
    show (sdR y0 y1 F n ++ sdQ y0 y1 (F n)).length ≤ (ptsN ys n ++ (po ys n).ps).length
    rw [List.length_append, List.length_append, hF n]
    omega
theorem pts_mono {ys : List Po} : ∀ {n m : Nat}, n ≤ m → (ptsN ys n).length ≤ (ptsN ys m).length := by
  intro n m h
  induction h with
  | refl => exact Nat.le_refl _
  | step _ ih =>
    refine Nat.le_trans ih ?_
    show _ ≤ (ptsN ys _ ++ _).length
    rw [List.length_append]; omega

set_option maxRecDepth 100000 in
set_option maxHeartbeats 8000000 in
theorem c_sides {v : Value} {ys : List Po} {w : World} (y0 y1 : Int) (h : Ysl w v ys) (hf : (ptsN ys ys.length).length ≤ 4194304) :
    Calls Try.prog 24 #[v, .int .i64 y0, .int .i64 y1] w (GivesD 57 w (sdR y0 y1 (fun i => (po ys i).ps) ys.length)) := by
  obtain ⟨N, hN⟩ : ∃ N, ys.length = N := ⟨_, rfl⟩
  obtain ⟨ao, cap, ev⟩ : ∃ ao cap, v = .slice ao N cap := by obtain ⟨ao, cap, e, _⟩ := h; rw [hN] at e; exact ⟨_, _, e⟩
  subst ev
  rw [hN]
  obtain ⟨F, hF⟩ : ∃ F, (fun i => (po ys i).ps) = F := ⟨_, rfl⟩
  rw [hF]
  have TT : Hid (∀ n, n ≤ N → (sdR y0 y1 F n).length + 0 ≤ (ptsN ys n).length) := Lib.hid (fun n _ => by have := sd_total (y0 := y0) (y1 := y1) (F := F) (ys := ys) (fun i => by rw [← hF]) n; omega)
  have TM : Hid (∀ n, n ≤ N → (ptsN ys n).length ≤ 4194304) := Lib.hid (fun n hn => Nat.le_trans (pts_mono (by rw [hN]; exact hn)) hf)
  have HS := Lib.hid h
  have hN1 : N ≤ 1000 := by obtain ⟨_, _, _, hf, _⟩ := h; omega
  have HN1 := Lib.hid hN1
  have HF := Lib.hid hF.symm
  clear h hN hN1 hF hf
  go_enter Try.func24, Try.ntmps24
  go_wp2_with fail
  go_loopw [7, 16] (fun o i wr => ∃ n : Nat, n ≤ N ∧ i = .int .i64 n ∧ Down 57 wr w.heap.size o (sdR y0 y1 F n) ∧ Below w.heap.size w wr) (fun _ i _ => N - (intOf i).toNat)
  case atStart => exact ⟨0, by omega, rfl, Down.nil _ _ _, Below.refl _ _⟩
  case round =>
    obtain ⟨n, hn, rfl, ho, hb⟩ := hrel
    have o0 : (N : Int) ≤ 1000 := by have := HN1.out; omega
    have HB := Lib.hid hb
    have HO := Lib.hid ho
    obtain ⟨L, hL⟩ : ∃ L, sdR y0 y1 F n = L := ⟨_, rfl⟩
    rw [hL] at HO
    have HL := Lib.hid hL
    clear hb ho hL
    by_cases hlt : n < N
    · obtain ⟨g, o, e1, r0, l0⟩ := HS.out.row (by omega)
      subst e1
      have hsl := r0.sl n (by omega)
      have cs0 := (r0.below HB.out (by omega)).c0 n (by omega)
      have cs := (r0.below HB.out (by omega)).c1 n (by omega)
      obtain ⟨p, hp⟩ : ∃ p, po ys n = p := ⟨_, rfl⟩
      have HFN : Hid (F n = p.ps) := Lib.hid (by rw [HF.out]; show (po ys n).ps = _; rw [hp])
      have TN : Hid ((sdR y0 y1 F n).length + p.ps.length ≤ 4194304) := Lib.hid (by
        have h1 := TT.out n (by omega)
        have h2 := TM.out (n + 1) (by omega)
        have h3 : (ptsN ys (n + 1)).length = (ptsN ys n).length + (po ys n).ps.length := by show (ptsN ys n ++ (po ys n).ps).length = _; rw [List.length_append]
        rw [hp] at h3
        omega)
      rw [hp] at hsl cs cs0
      obtain ⟨c, vy, ps⟩ := p
      simp only at hsl HFN cs cs0 TN
      obtain ⟨K, hK⟩ : ∃ K, ps.length = K := ⟨_, rfl⟩
      obtain ⟨aoy, capy, evy⟩ : ∃ ao cap, vy = .slice ao K cap := by obtain ⟨ao, cap, hv, _⟩ := hsl; rw [hK] at hv; exact ⟨_, _, hv⟩
      subst evy
      have SV := Lib.hid hsl
      have HKL := Lib.hid hK
      have o6 : (K : Int) ≤ 4194304 := by have := TN.out; omega
      have o3 : (n : Int) < N := by omega
      have ES : Hid (sdR y0 y1 F (n + 1) = L ++ sdQ y0 y1 ps) := Lib.hid (by show sdR y0 y1 F n ++ sdQ y0 y1 (F n) = _; rw [HL.out, HFN.out])
      rw [HL.out] at TN
      obtain ⟨P, hP⟩ : ∃ P, wr.heap.size = P := ⟨_, rfl⟩
      obtain ⟨V, hV⟩ : ∃ V, wr.alloc (.cells #[.bool c, .slice aoy K capy] 31) = V := ⟨_, rfl⟩
      have hp : Has V P #[.bool c, .slice aoy K capy] 31 := by rw [← hV]; exact has_new hP
      have bV : Below wr.heap.size wr V := by rw [← hV]; exact (Below.refl _ _).alloc (Nat.le_refl _) _
      have HV := Lib.hid hV
      have KP := Lib.hid hp
      have BV := Lib.hid (HB.out.trans (bV.mono HB.out.size))
      have OV := Lib.hid (HO.out.below bV (Nat.le_refl _))
      have SW := Lib.hid (SV.out.below BV.out (Nat.le_refl _))
      clear r0 l0 hsl hK hp hV bV
      go_upto_region 5 with fail
      rw [HV.out]
      clear hP cs cs0
      have p1 := KP.out.cell 1 _ rfl
      by_cases h2 : K < 2
      · have o7 : (K : Int) < 2 := by omega
        have E : Hid (sdR y0 y1 F (n + 1) = L) := Lib.hid (by rw [ES.out]; unfold sdQ; rw [if_pos (by have := HKL.out; omega), List.append_nil])
        go_wp2
        go_roundw
        case rel => exact ⟨n + 1, by omega, by go_num, by rw [E.out]; exact OV.out, BV.out⟩
        case measure => simp [intOf]; omega
      · have o7 : ¬ (K : Int) < 2 := by omega
        have ES2 : Hid (sdR y0 y1 F (n + 1) = L ++ sdN y0 y1 ps K) := Lib.hid (by rw [ES.out]; unfold sdQ; rw [if_neg (by have := HKL.out; omega), HKL.out])
        obtain ⟨gq, oq, eq, row, -⟩ := SW.out.row (by omega)
        subst eq
        obtain ⟨J, hJ⟩ : ∃ J, K - 1 = J := ⟨_, rfl⟩
        have hJK : J < K := by omega
        have oJ : (K : Int) - 1 = J := by omega
        have oJ2 : (J : Int) < K := by omega
        have HJ : Hid (K - 1 = J) := Lib.hid hJ
        clear hJ
        obtain ⟨q, hq⟩ : ∃ q, pt ps J = q := ⟨_, rfl⟩
        have q0 := row.c0 J (by have := HKL.out; omega)
        have q1 := row.c1 J (by have := HKL.out; omega)
        rw [hq] at q0 q1
        have HQ := Lib.hid hq
        have CH := Lib.hid (fun w => c_held q w)
        obtain ⟨qx, qy⟩ := q
        simp only at q0 q1
        have HROW := Lib.hid row
        clear row hq
        go_wp2_with fail
        refine (CH.out _).mono ?_
        rintro e w1 ⟨rfl, hb1⟩
        obtain ⟨G, hG⟩ : ∃ G, w1.heap.size = G := ⟨_, rfl⟩
        obtain ⟨a, ha⟩ : ∃ a, plc (⟨qx, qy⟩ : Pt) = a := ⟨_, rfl⟩
        obtain ⟨V2, hV2⟩ : ∃ V2, w1.alloc (.cells (pCells a) 28) = V2 := ⟨_, rfl⟩
        have kg : Has V2 G (pCells a) 28 := by rw [← hV2]; exact has_new hG
        have b2 : Below w1.heap.size w1 V2 := by rw [← hV2]; exact (Below.refl _ _).alloc (Nat.le_refl _) _
        have b3 : Below V.heap.size V V2 := hb1.trans (b2.mono hb1.size)
        have D0 : Hid (DR w u7 (L ++ sdN y0 y1 ps 0) G a V2) := Lib.hid ⟨by rw [show L ++ sdN y0 y1 ps 0 = L from List.append_nil L]; exact OV.out.below b3 (Nat.le_refl _), kg, by have := BV.out.size; have := hb1.size; omega, fun e => by have := (OV.out.base _ e).2; have := hb1.size; omega, BV.out.trans (b3.mono BV.out.size)⟩
        have EA : Hid (a = plc (pt ps J)) := Lib.hid (by rw [HQ.out, ha])
        have KP2 := Lib.hid (KP.out.below b3 KP.out.lt)
        have B3 := Lib.hid b3
        have HV2 := Lib.hid hV2
        obtain ⟨ax, ay⟩ := a
        rw [ha]
        clear q0 q1 p1 kg b2 b3 hb1 hV2 ha
        go_upto_region 7 with fail
        rw [HV2.out]
        clear hG
        have p1 := KP2.out.cell 1 _ rfl
        go_wp2_with fail
        go_loopw [7, 36] (fun o i wk => ∃ (k : Nat) (b : Pt), k ≤ K ∧ i = .int .i64 k ∧ b = plc (pt ps (if k = 0 then K - 1 else k - 1)) ∧ DR w o (L ++ sdN y0 y1 ps k) G b wk) (fun _ i _ => K - (intOf i).toNat)
        case atStart => exact ⟨0, ⟨ax, ay⟩, by omega, rfl, by rw [if_pos rfl, HJ.out]; exact EA.out, D0.out⟩
        case round =>
          clear D0 EA p1
          obtain ⟨k, b, hk, rfl, hbe, hd⟩ := hrel
          have HD := Lib.hid hd
          have HBE := Lib.hid hbe
          clear hd hbe
          by_cases hkl : k < K
          · obtain ⟨g2, o2, eq, row, -⟩ := (SV.out.below HD.out.below (Nat.le_refl _)).row (by omega)
            simp only [Option.some.injEq, Addr.mk.injEq, and_true] at eq
            obtain ⟨rfl, rfl⟩ := eq
            have t0 := row.c0 k (by have := HKL.out; omega)
            have t1 := row.c1 k (by have := HKL.out; omega)
            obtain ⟨t, ht⟩ : ∃ t, pt ps k = t := ⟨_, rfl⟩
            rw [ht] at t0 t1
            have HT := Lib.hid ht
            have CT := Lib.hid (fun w => c_held t w)
            obtain ⟨tx, ty⟩ := t
            simp only at t0 t1
            have o9 : (k : Int) < K := by omega
            obtain ⟨T, hT⟩ : ∃ T, wr.heap.size = T := ⟨_, rfl⟩
            obtain ⟨V3, hV3⟩ : ∃ V3, wr.alloc (.cells #[.int .i64 tx, .int .i64 ty] 28) = V3 := ⟨_, rfl⟩
            have kt : Has V3 T #[.int .i64 tx, .int .i64 ty] 28 := by rw [← hV3]; exact has_new hT
            have b3 : Below wr.heap.size wr V3 := by rw [← hV3]; exact (Below.refl _ _).alloc (Nat.le_refl _) _
            have D3 := Lib.hid (HD.out.later b3)
            have KT := Lib.hid kt
            have HV3 := Lib.hid hV3
            clear row ht kt b3 hV3
            go_upto_region 10 with fail
            rw [HV3.out]
            clear hT t0 t1
            have t0 := KT.out.cell 0 _ rfl
            have t1 := KT.out.cell 1 _ rfl
            go_wp2_with fail
            refine (CT.out _).mono ?_
            rintro e w2 ⟨rfl, hb2⟩
            obtain ⟨Hb, hHb⟩ : ∃ G, w2.heap.size = G := ⟨_, rfl⟩
            obtain ⟨b', hbb⟩ : ∃ a, plc (⟨tx, ty⟩ : Pt) = a := ⟨_, rfl⟩
            obtain ⟨V4, hV4⟩ : ∃ V4, w2.alloc (.cells (pCells b') 28) = V4 := ⟨_, rfl⟩
            have kb : Has V4 Hb (pCells b') 28 := by rw [← hV4]; exact has_new hHb
            have b4 : Below w2.heap.size w2 V4 := by rw [← hV4]; exact (Below.refl _ _).alloc (Nat.le_refl _) _
            have D4 := Lib.hid ((D3.out.later hb2).later b4)
            have KB := Lib.hid kb
            have HV4 := Lib.hid hV4
            have NE : Hid (Hb ≠ G ∧ w.heap.size ≤ Hb ∧ Value.ownBlock u7 ≠ some Hb) := Lib.hid ⟨by have := D3.out.kg.lt; have := hb2.size; omega, by have := D3.out.below.size; have := hb2.size; omega, fun e => by have := (D3.out.own.base _ e).2; have := hb2.size; omega⟩
            have HSD : Hid (sideA ps k = (b, b')) := Lib.hid (by unfold sideA; rw [HKL.out, ← HBE.out, HT.out, hbb])
            rw [hbb]
            obtain ⟨bx, bY⟩ := b
            obtain ⟨cx, cy⟩ := b'
            clear kb b4 hb2 hV4 hbb t0 t1
            go_upto_region 11 with fail
            rw [HV4.out]
            clear hHb
            have g0 := D4.out.kg.cell 0 _ rfl
            have g1 := D4.out.kg.cell 1 _ rfl
            have k0 := KB.out.cell 0 _ rfl
            have k1 := KB.out.cell 1 _ rfl
            have fz := has_fro D4.out.kg
            obtain ⟨m0, hm0⟩ : ∃ m, (if cy < bY then cy else bY) = m := ⟨_, rfl⟩
            obtain ⟨m1, hm1⟩ : ∃ m, (if bY < cy then cy else bY) = m := ⟨_, rfl⟩
            have hn0 : min bY cy = m0 := by rw [← hm0]; split <;> omega
            have hn1 : max bY cy = m1 := by rw [← hm1]; split <;> omega
            have SO : Hid (sdOk y0 y1 (sideA ps k) = (decide (m0 ≤ y1) && decide (y0 < m1))) := Lib.hid (by rw [HSD.out]; unfold sdOk minI maxI; simp only; rw [hm0, hm1])
            have HK1 : Hid ((⟨cx, cy⟩ : Pt) = plc (pt ps (if k + 1 = 0 then K - 1 else k + 1 - 1))) := Lib.hid (by have := congrArg Prod.snd HSD.out; rw [if_neg (by omega)]; exact this.symm)
            clear hm0 hm1
            by_cases hA : m0 ≤ y1
            · by_cases hB : y0 < m1
              · have E : Hid (L ++ sdN y0 y1 ps (k + 1) = (L ++ sdN y0 y1 ps k) ++ [((⟨bx, bY⟩ : Pt), (⟨cx, cy⟩ : Pt))]) := Lib.hid (by rw [sdN_yes (by rw [SO.out]; simp [hA, hB]), ← List.append_assoc, HSD.out])
                go_upto_region 12 with fail
                obtain ⟨Hs, hHs⟩ : ∃ G, V4.heap.size = G := ⟨_, rfl⟩
                obtain ⟨V5, hV5⟩ : ∃ V5, V4.alloc (.cells #[.int .i64 bx, .int .i64 bY, .int .i64 cx, .int .i64 cy] 57) = V5 := ⟨_, rfl⟩
                have ks : Has V5 Hs (dCells ((⟨bx, bY⟩ : Pt), (⟨cx, cy⟩ : Pt))) 57 := by rw [← hV5]; exact has_new hHs
                have b5 : Below V4.heap.size V4 V5 := by rw [← hV5]; exact (Below.refl _ _).alloc (Nat.le_refl _) _
                have D5 := Lib.hid (D4.out.later b5)
                have KS := Lib.hid ks
                have KB5 := Lib.hid (KB.out.below b5 KB.out.lt)
                have HV5 := Lib.hid hV5
                obtain ⟨M, hM⟩ : ∃ M, (L ++ sdN y0 y1 ps k).length = M := ⟨_, rfl⟩
                have LM : Hid (M ≤ 8000000) := Lib.hid (by rw [← hM, List.length_append]; have := sdN_length y0 y1 ps k; have := TN.out; have := HKL.out; omega)
                have HM := Lib.hid hM
                have B5 : Hid (w.heap.size ≤ V5.heap.size) := Lib.hid D5.out.below.size
                clear ks b5 hV5 hM fz SO hn0 hn1
                go_wp2_with (at_builtin; rw [HV5.out]; refine wpList_append_sd infoD rfl _ _ rfl M HM.out rfl Hs rfl ((⟨bx, bY⟩ : Pt), (⟨cx, cy⟩ : Pt)) _ KS.out rfl D5.out.own LM.out B5.out ?_)
                intro g' cap' w5 ho5 hg5 hw5
                rw [← List.append_assoc] at ho5
                have D6 := Lib.hid (D5.out.grow ho5 hg5 hw5)
                have KB6 := Lib.hid (show Has w5 Hb (pCells ⟨cx, cy⟩) 28 from (hg5.block Hb KB5.out.lt (fun e => NE.out.2.2 e.symm)).trans KB5.out)
                have R := Lib.hid (D6.out.put ⟨cx, cy⟩)
                clear g0 g1 k0 k1 hHs ho5 hg5 hw5
                have k0 := KB6.out.cell 0 _ rfl
                have k1 := KB6.out.cell 1 _ rfl
                have g0 := D6.out.kg.cell 0 _ rfl
                have g1 := D6.out.kg.cell 1 _ rfl
                have fz := has_fro D6.out.kg
                go_wp2
                go_roundw
                case rel => exact ⟨k + 1, ⟨cx, cy⟩, by omega, by go_num, HK1.out, by rw [E.out]; exact R.out⟩
                case measure => simp [intOf]; omega
              · have E : Hid (L ++ sdN y0 y1 ps (k + 1) = L ++ sdN y0 y1 ps k) := Lib.hid (by rw [sdN_no (by rw [SO.out]; simp; omega)])
                have R := Lib.hid (D4.out.put ⟨cx, cy⟩)
                go_wp2
                go_roundw
                case rel => exact ⟨k + 1, ⟨cx, cy⟩, by omega, by go_num, HK1.out, by rw [E.out]; exact R.out⟩
                case measure => simp [intOf]; omega
            · have E : Hid (L ++ sdN y0 y1 ps (k + 1) = L ++ sdN y0 y1 ps k) := Lib.hid (by rw [sdN_no (by rw [SO.out]; simp; omega)])
              have R := Lib.hid (D4.out.put ⟨cx, cy⟩)
              go_wp2
              go_roundw
              case rel => exact ⟨k + 1, ⟨cx, cy⟩, by omega, by go_num, HK1.out, by rw [E.out]; exact R.out⟩
              case measure => simp [intOf]; omega
          · obtain rfl : k = K := by omega
            have o9 : ¬ (k : Int) < k := by omega
            have R : Hid (Down 57 wr w.heap.size u7 (sdR y0 y1 F (n + 1)) ∧ Below w.heap.size w wr) := Lib.hid ⟨by rw [ES2.out]; exact HD.out.own, HD.out.below⟩
            go_wp2
            go_roundw
            case rel => exact ⟨n + 1, by omega, by go_num, R.out.1, R.out.2⟩
            case measure => simp [intOf]; omega
    · obtain rfl : n = N := by omega
      have o3 : ¬ (n : Int) < n := by omega
      have R : Hid (∀ o, Down 57 wr w.heap.size o L → GivesD 57 w (sdR y0 y1 F n) (.returned o) wr) := Lib.hid (fun o ho => ⟨_, rfl, by rw [HL.out]; exact ho, HB.out⟩)
      have R2 := Lib.hid (R.out _ HO.out)
      go_wp2
      go_ret
      exact R2.out

end Go.Proofs.Ytopepgifhnfbiaa

namespace Go.Proofs.Ytopepgifhnfbiaa
open Go Go.RowKit
open M

theorem take_sd {ls : List Sd} {k : Nat} (h : k < ls.length) : ls.take (k + 1) = ls.take k ++ [sd ls k] := by
  rw [List.take_succ_eq_append_getElem h]
  unfold sd
  simp [List.getD, h]
theorem sdN_ok (y0 y1 : Int) (ps : List Pt) : ∀ k, ∀ s ∈ sdN y0 y1 ps k, SdOk s
  | 0, s, hs => by cases hs
  | k + 1, s, hs => by
    cases h : sdOk y0 y1 (sideA ps k)
    · rw [sdN_no h] at hs
      exact sdN_ok y0 y1 ps k s hs
    · rw [sdN_yes h] at hs
      rcases List.mem_append.1 hs with h1 | h1
      · exact sdN_ok y0 y1 ps k s h1
      · rw [List.mem_singleton.1 h1]; exact sdOk_plc _ _
theorem sdR_ok (y0 y1 : Int) (F : Nat → List Pt) : ∀ n, ∀ s ∈ sdR y0 y1 F n, SdOk s
  | 0, s, hs => by cases hs
  | n + 1, s, hs => by
    rcases List.mem_append.1 hs with h1 | h1
    · exact sdR_ok y0 y1 F n s h1
    · unfold sdQ at h1
      split at h1
      · cases h1
      · exact sdN_ok _ _ _ _ s h1

set_option maxRecDepth 100000 in
set_option maxHeartbeats 4000000 in
theorem c_wind {v : Value} {ys : List Po} {w : World} (x y : Int) (h : Ysl w v ys) (hf : (ptsN ys ys.length).length ≤ 4194304) :
    Calls Try.prog 13 #[v, .int .i64 x, .int .i64 y] w fun r w' => r = .returned (.int .i64 (windY x y ys)) ∧ Below w.heap.size w w' := by
  unfold windY
  obtain ⟨X, hX⟩ : ∃ X, place x = X := ⟨_, rfl⟩
  obtain ⟨Y, hY⟩ : ∃ Y, place y = Y := ⟨_, rfl⟩
  have XI : Hid (-536870912 ≤ X ∧ X ≤ 536870912) := Lib.hid (hX ▸ ⟨place_lo x, place_hi x⟩)
  have YI : Hid (-536870912 ≤ Y ∧ Y ≤ 536870912) := Lib.hid (hY ▸ ⟨place_lo y, place_hi y⟩)
  rw [hX, hY]
  rw [← sum_w1 (Int.le_refl Y) (Int.le_refl Y)]
  have SC := Lib.hid (c_sides Y Y h hf)
  have LM : Hid ((sdR Y Y (fun i => (po ys i).ps) ys.length).length ≤ 4194304) := Lib.hid (Nat.le_trans (sd_total (fun i => rfl) _) hf)
  have OK := Lib.hid (sdR_ok Y Y (fun i => (po ys i).ps) ys.length)
  obtain ⟨L, hL⟩ : ∃ L, sdR Y Y (fun i => (po ys i).ps) ys.length = L := ⟨_, rfl⟩
  rw [hL] at SC LM OK ⊢
  obtain ⟨ao, n, cap, rfl⟩ : ∃ ao n cap, v = .slice ao n cap := by obtain ⟨ao, cap, e, _⟩ := h; exact ⟨_, _, _, e⟩
  have HX := Lib.hid hX
  have HY := Lib.hid hY
  clear h hf hL hX hY
  go_enter Try.func13, Try.ntmps13
  go_upto_region 2 with (first | (go_at_call_of 23 x; refine (q_place _ _).mono ?_; rintro e w' ⟨rfl, rfl⟩) | (go_at_call_of 23 y; refine (q_place _ _).mono ?_; rintro e w' ⟨rfl, rfl⟩))
  rw [HX.out, HY.out]
  go_wp2_with fail
  refine SC.out.mono ?_
  rintro e wa ⟨u, rfl, ho, hb⟩
  obtain ⟨al, cl, el⟩ := ho.len
  obtain ⟨M, hM⟩ : ∃ M, L.length = M := ⟨_, rfl⟩
  rw [hM] at el LM
  subst el
  have HS := Lib.hid ho.sl
  have HB := Lib.hid hb
  have HM := Lib.hid hM
  clear ho hb hM
  go_wp2_with fail
  go_loopw [7, 19] (fun s i wr => ∃ k : Nat, k ≤ M ∧ i = .int .i64 k ∧ s = .int .i64 (sumL (fun s => w1 X Y s.1 s.2) (L.take k)) ∧ Below wa.heap.size wa wr) (fun _ i _ => M - (intOf i).toNat)
  case atStart => exact ⟨0, by omega, rfl, rfl, Below.refl _ _⟩
  case round =>
    obtain ⟨k, hk, rfl, rfl, hb⟩ := hrel
    have HBK := Lib.hid hb
    have SI := sumL_in (f := fun s : Sd => w1 X Y s.1 s.2) (fun s => w1_in X Y s.1 s.2) (L.take k)
    have o0 : (M : Int) ≤ 4194304 := by have := LM.out; omega
    rw [List.length_take] at SI
    have S2 : -4194304 ≤ sumL (fun s => w1 X Y s.1 s.2) (L.take k) ∧ sumL (fun s => w1 X Y s.1 s.2) (L.take k) ≤ 4194304 := by omega
    obtain ⟨S, hS⟩ : ∃ S, sumL (fun s => w1 X Y s.1 s.2) (L.take k) = S := ⟨_, rfl⟩
    rw [hS] at S2 ⊢
    have HSU := Lib.hid hS
    clear SI hS hb
    by_cases hlt : k < M
    · have o3 : (k : Int) < M := by omega
      obtain ⟨g, o, e1, row, -⟩ := (HS.out.below HBK.out).row (by omega)
      subst e1
      have hkl : k < L.length := by rw [HM.out]; exact hlt
      have c0 := row.c0 k hkl
      have c1 := row.c1 k hkl
      have c2 := row.c2 k hkl
      have c3 := row.c3 k hkl
      have ok := OK.out _ (sd_mem hkl)
      have ES : Hid (sumL (fun s => w1 X Y s.1 s.2) (L.take (k + 1)) = S + w1 X Y (sd L k).1 (sd L k).2) := Lib.hid (by rw [take_sd hkl, sumL_append, HSU.out]; simp [sumL])
      obtain ⟨s, hs⟩ : ∃ s, sd L k = s := ⟨_, rfl⟩
      rw [hs] at c0 c1 c2 c3 ok ES
      have EW : Hid (w1 X Y s.1 s.2 = if bydP s.1 s.2 X Y = true then wayP s.1 s.2 Y else 0) := Lib.hid (w1_way X Y s.1 s.2)
      have CB := Lib.hid (fun w => c_beyond s X Y ok XI.out YI.out w)
      have CW := Lib.hid (fun w => c_way s Y w)
      have wi := wayP_in s.1 s.2 Y
      obtain ⟨b, hbb⟩ : ∃ b, bydP s.1 s.2 X Y = b := ⟨_, rfl⟩
      obtain ⟨W, hW⟩ : ∃ W, wayP s.1 s.2 Y = W := ⟨_, rfl⟩
      rw [hbb] at CB EW
      rw [hW] at CW EW wi
      obtain ⟨⟨ax, ay⟩, bx, bY⟩ := s
      simp only at c0 c1 c2 c3
      obtain ⟨G, hG⟩ : ∃ G, wr.heap.size = G := ⟨_, rfl⟩
      obtain ⟨V, hV⟩ : ∃ V, wr.alloc (.cells #[.int .i64 ax, .int .i64 ay, .int .i64 bx, .int .i64 bY] 57) = V := ⟨_, rfl⟩
      have kg : Has V G #[.int .i64 ax, .int .i64 ay, .int .i64 bx, .int .i64 bY] 57 := by rw [← hV]; exact has_new hG
      have bV : Below wr.heap.size wr V := by rw [← hV]; exact (Below.refl _ _).alloc (Nat.le_refl _) _
      have KG := Lib.hid kg
      have BV := Lib.hid (HBK.out.trans (bV.mono HBK.out.size))
      have HV := Lib.hid hV
      clear row hs ok hbb hW kg bV hV hkl
      go_upto_region 6 with fail
      rw [HV.out]
      clear hG c0 c1 c2 c3
      have g0 := KG.out.cell 0 _ rfl
      have g1 := KG.out.cell 1 _ rfl
      have g2 := KG.out.cell 2 _ rfl
      have g3 := KG.out.cell 3 _ rfl
      go_wp2_with fail
      refine (CB.out _).mono ?_
      rintro e w2 ⟨rfl, hb2⟩
      have K2 := Lib.hid (KG.out.below hb2 KG.out.lt)
      have B2 := Lib.hid (BV.out.trans (hb2.mono BV.out.size))
      clear g0 g1 g2 g3 hb2
      cases b
      · have E : Hid (sumL (fun s => w1 X Y s.1 s.2) (L.take (k + 1)) = S) := Lib.hid (by rw [ES.out, EW.out]; simp)
        go_wp2
        go_roundw
        case rel => exact ⟨k + 1, by omega, by go_num, by rw [E.out], B2.out⟩
        case measure => simp [intOf]; omega
      · have E : Hid (sumL (fun s => w1 X Y s.1 s.2) (L.take (k + 1)) = S + W) := Lib.hid (by rw [ES.out, EW.out]; simp)
        have g0 := K2.out.cell 0 _ rfl
        have g1 := K2.out.cell 1 _ rfl
        have g2 := K2.out.cell 2 _ rfl
        have g3 := K2.out.cell 3 _ rfl
        go_wp2_with fail
        refine (CW.out _).mono ?_
        rintro e w3 ⟨rfl, hb3⟩
        have B3 := Lib.hid (B2.out.trans (hb3.mono B2.out.size))
        clear g0 g1 g2 g3 hb3
        go_wp2
        go_roundw
        case rel => exact ⟨k + 1, by omega, by go_num, by rw [E.out], B3.out⟩
        case measure => simp [intOf]; omega
    · obtain rfl : k = M := by omega
      have o3 : ¬ (k : Int) < k := by omega
      have E : Hid (sumL (fun s => w1 X Y s.1 s.2) L = S) := Lib.hid (by have := HSU.out; rw [List.take_of_length_le (by rw [HM.out]; exact Nat.le_refl _)] at this; exact this)
      go_wp2
      go_ret
      exact ⟨by rw [E.out]; rfl, HB.out.trans (HBK.out.mono HB.out.size)⟩

end Go.Proofs.Ytopepgifhnfbiaa

namespace Go.Proofs.Ytopepgifhnfbiaa
open Go Go.RowKit
open M

/-- What of the pixel t (of m from o on) the first k places add. -/
def addF (F : Nat → Int) (c : Nat → Bool) (o m k : Nat) (t : Nat) : Int := if o ≤ t ∧ t < o + m then F t + (addN c (t - o) k : Nat) else F t
theorem addF_zero (F : Nat → Int) (c : Nat → Bool) (o m : Nat) : addF F c o m 0 = F := by
  funext t
  unfold addF
  split
  · simp [addN]
  · rfl
theorem addF_no {F : Nat → Int} {c : Nat → Bool} {o m k : Nat} (h : c k = false) : addF F c o m (k + 1) = addF F c o m k := by
  funext t
  have : ∀ p, addN c p (k + 1) = addN c p k := fun p => by show addN c p k + (if k / 4 = p ∧ c k = true then 1 else 0) = _; rw [if_neg (by rw [h]; simp)]; rfl
  unfold addF
  rw [this]
theorem addF_yes {F : Nat → Int} {c : Nat → Bool} {o m k t : Nat} (h : c k = true) (ht : k / 4 = t) (hm : t < m) : addF F c o m (k + 1) (o + t) = addF F c o m k (o + t) + 1 ∧ ∀ j, j ≠ o + t → addF F c o m (k + 1) j = addF F c o m k j := by
  constructor
  · unfold addF
    rw [if_pos (by omega), if_pos (by omega), show o + t - o = t by omega]
    have : addN c t (k + 1) = addN c t k + 1 := by show addN c t k + (if k / 4 = t ∧ c k = true then 1 else 0) = _; rw [if_pos ⟨ht, h⟩]
    rw [this]; omega
  · intro j hj
    unfold addF
    split
    · have : addN c (j - o) (k + 1) = addN c (j - o) k := by show addN c (j - o) k + (if k / 4 = j - o ∧ c k = true then 1 else 0) = _; rw [if_neg (by omega)]; rfl
      rw [this]
    · rfl
theorem addF_in {F : Nat → Int} {c : Nat → Bool} {o m k t : Nat} (h : ∀ i, 0 ≤ F i ∧ F i ≤ 1000) : 0 ≤ addF F c o m k t ∧ addF F c o m k t ≤ 1004 := by
  have := h t
  have := addN_le c (t - o) k
  unfold addF
  split <;> omega

set_option maxRecDepth 100000 in
set_option maxHeartbeats 8000000 in
theorem c_addLine {v : Value} {L : List Sd} {w : World} {g o m cap N : Nat} {F : Nat → Int} (rule x0 y : Int) (hs : Dsl w v L) (hl : L.length ≤ 4194304) (hok : ∀ s ∈ L, SdOk s) (h0 : -1000 ≤ x0) (h1 : x0 ≤ 1000) (hy : -536870912 ≤ y ∧ y ≤ 536870912)
    (hg : Has w g (rowA F N) 3) (hm : o + m ≤ N) (hN : N ≤ 1000) (hF : ∀ i, 0 ≤ F i ∧ F i ≤ 1000) :
    Calls Try.prog 42 #[.slice (some ⟨g, o, none⟩) m cap, v, .int .i64 rule, .int .i64 x0, .int .i64 y] w fun e w' => e = .returned (.tuple #[]) ∧ Has w' g (rowA (addF F (fun i => countB rule (sumN (chgL x0 y (4 * m) L) (i + 1))) o m (4 * m)) N) 3 ∧ w.grownBy w' (some g) := by
  obtain ⟨W, hW⟩ : ∃ W, (w.alloc (.cells #[.int .i64 x0] 3)).alloc (.cells #[.int .i64 y] 2) = W := ⟨_, rfl⟩
  obtain ⟨ka, kb, hb0⟩ := has_old hW
  obtain ⟨A, hA⟩ : ∃ A, w.heap.size = A := ⟨_, rfl⟩
  rw [hA] at ka kb
  obtain ⟨n, hn⟩ : ∃ n, 4 * m = n := ⟨_, rfl⟩
  have hn1 : n ≤ 4000 := by omega
  have gl := hg.lt
  have mk := make_ints (n := n + 1) (by omega)
  rw [show ((n + 1 : Nat) : Int) = (n : Int) + 1 by omega] at mk
  have HS := Lib.hid (hs.below hb0)
  have HG := Lib.hid (hg.below hb0 gl)
  have HW := Lib.hid hW
  have KA := Lib.hid ka
  have KB := Lib.hid kb
  have B0 := Lib.hid hb0
  have HL := Lib.hid hl
  have HOK := Lib.hid hok
  have HFB := Lib.hid hF
  have HN4 := Lib.hid hn
  have HY := Lib.hid hy
  have HM := Lib.hid hm
  have HNN := Lib.hid hN
  have GLT : Hid (g < A) := Lib.hid (by omega)
  have en : (4 : Int) * (m : Int) = (n : Int) := by omega
  have om : (m : Int) ≤ 1000 := by omega
  have on : (n : Int) ≤ 4000 := by omega
  obtain ⟨al, M, cl, rfl⟩ : ∃ ao n cap, v = .slice ao n cap := by obtain ⟨ao, cap, e⟩ := hs.slice; exact ⟨_, _, _, e⟩
  have EM : Hid (L.length = M) := Lib.hid (by obtain ⟨ao', cap', e⟩ := hs.slice; simp at e; exact e.2.1.symm)
  have oM : (M : Int) ≤ 4194304 := by have := EM.out; omega
  rw [hn]
  obtain ⟨c, hc⟩ : ∃ c, chgL x0 y n L = c := ⟨_, rfl⟩
  have CI : Hid (∀ i, -(L.length : Int) ≤ c i ∧ c i ≤ L.length) := Lib.hid (fun i => by rw [← hc]; exact chgL_in x0 y n L i)
  have HCC := Lib.hid hc
  rw [hc]
  obtain ⟨cb, hcb⟩ : ∃ cb, (fun i => countB rule (sumN c (i + 1))) = cb := ⟨_, rfl⟩
  rw [hcb]
  have HCB : Hid (∀ i, countB rule (sumN c (i + 1)) = cb i) := Lib.hid (fun i => by rw [← hcb])
  clear hc hcb
  clear hs hl hok hy hg hm hN hF hW ka kb hb0 hn1 gl hn
  go_enter Try.func42, Try.ntmps42
  go_upto_region 1 with fail
  rw [HW.out]
  clear hA
  obtain ⟨C, hC⟩ : ∃ C, W.heap.size = C := ⟨_, rfl⟩
  go_upto_region 3 with fail
  obtain ⟨W1, hW1⟩ : ∃ V, W.alloc (.cells (rowA (fun _ => 0) (n + 1)) 3) = V := ⟨_, rfl⟩
  have kc : Has W1 C (rowA (fun _ => 0) (n + 1)) 3 := by rw [← hW1]; exact has_new hC
  have b1 : Below W.heap.size W W1 := by rw [← hW1]; exact (Below.refl _ _).alloc (Nat.le_refl _) _
  have KC : Hid (Has W1 C (rowA (chgL x0 y n (L.take 0)) (n + 1)) 3) := Lib.hid kc
  have B1 := Lib.hid b1
  have CW : Hid (C = W.heap.size) := Lib.hid hC.symm
  rw [hW1]
  clear hW1 kc b1 hC mk
  have hmf : ∀ (fn : Fn) (first cap : Array Value) (w : World), (Instr.makeFunc fn first cap).run Try.prog w = .ok (.func fn first cap) w := fun _ _ _ _ => rfl
  go_wp2_with fail
  go_loopw [26] (fun i wr => ∃ k : Nat, k ≤ M ∧ i = .int .i64 k ∧ Has wr C (rowA (chgL x0 y n (L.take k)) (n + 1)) 3 ∧ Below W.heap.size W wr) (fun i _ => M - (intOf i).toNat)
  case atStart => exact ⟨0, by omega, rfl, KC.out, B1.out⟩
  case round =>
    clear KC
    obtain ⟨k, hk, rfl, hc, hb⟩ := hrel
    have HC := Lib.hid hc
    have HB := Lib.hid hb
    clear hc hb
    by_cases hlt : k < M
    · have o3 : (k : Int) < M := by omega
      obtain ⟨g2, o2, e1, row, -⟩ := (HS.out.below HB.out).row (by omega)
      subst e1
      have hkl : k < L.length := by rw [EM.out]; exact hlt
      have c0 := row.c0 k hkl
      have c1 := row.c1 k hkl
      have c2 := row.c2 k hkl
      have c3 := row.c3 k hkl
      have ok := HOK.out _ (sd_mem hkl)
      have ET := Lib.hid (take_sd hkl)
      obtain ⟨s, hs⟩ : ∃ s, sd L k = s := ⟨_, rfl⟩
      rw [hs] at c0 c1 c2 c3 ok ET
      obtain ⟨f0, hf0⟩ : ∃ f, fstS x0 y n s = f := ⟨_, rfl⟩
      have f0n : f0 ≤ n := by rw [← hf0]; exact fstS_le _ _ _ _
      have CY := Lib.hid (fun w => c_way s y w)
      have wi := wayP_in s.1 s.2 y
      obtain ⟨z, hz⟩ : ∃ z, wayP s.1 s.2 y = z := ⟨_, rfl⟩
      rw [hz] at CY wi
      have ci := chgL_in x0 y n (L.take k) f0
      obtain ⟨cv, hcv⟩ : ∃ c, chgL x0 y n (L.take k) f0 = c := ⟨_, rfl⟩
      rw [hcv, List.length_take] at ci
      have ci2 : -4194304 ≤ cv ∧ cv ≤ 4194304 := by omega
      have HNEW : Hid (chgL x0 y n (L.take (k + 1)) f0 = cv - z ∧ ∀ j, j ≠ f0 → chgL x0 y n (L.take (k + 1)) j = chgL x0 y n (L.take k) j) := Lib.hid (by
        refine ⟨by rw [ET.out, chgL_snoc, hf0, if_pos rfl, hcv, hz], fun j hj => by rw [ET.out, chgL_snoc, hf0, if_neg (Ne.symm hj)]⟩)
      obtain ⟨S, hS⟩ : ∃ G, wr.heap.size = G := ⟨_, rfl⟩
      obtain ⟨V, hV⟩ : ∃ V, wr.alloc (.cells (dCells s) 57) = V := ⟨_, rfl⟩
      have ks : Has V S (dCells s) 57 := by rw [← hV]; exact has_new hS
      have bV : Below wr.heap.size wr V := by rw [← hV]; exact (Below.refl _ _).alloc (Nat.le_refl _) _
      have HCV := Lib.hid (HC.out.below bV HC.out.lt)
      have BV := Lib.hid (HB.out.trans (bV.mono HB.out.size))
      have KAV := Lib.hid (KA.out.below BV.out KA.out.lt)
      have KBV := Lib.hid (KB.out.below BV.out KB.out.lt)
      have SE := Lib.hid (c_search (n := n) (p := fun i => bydP s.1 s.2 (colX x0 i) y) (S := S) (A := A) (B := A + 1) (w := V) (by omega) (fun i j h _ hp => byd_back (by unfold colX; omega) hp) (fun i hi w' hb => c_ask ok h0 h1 HY.out (ks.below hb ks.lt) (KAV.out.below hb KAV.out.lt) (KBV.out.below hb KBV.out.lt) (by omega)))
      have eF : cntF (fun i => bydP s.1 s.2 (colX x0 i) y) n = f0 := hf0
      rw [eF] at SE
      have KS := Lib.hid ks
      have HV := Lib.hid hV
      obtain ⟨⟨ax, ay⟩, bx, bY⟩ := s
      simp only at c0 c1 c2 c3
      clear row hs ok hz ci ks bV hV hkl eF hf0
      go_upto_region 6 with fail
      rw [HV.out]
      clear hS c0 c1 c2 c3
      go_wp2_with fail
      refine SE.out.mono ?_
      rintro e w2 ⟨rfl, hb2⟩
      have KS2 := Lib.hid (KS.out.below hb2 KS.out.lt)
      have HC2 := Lib.hid (HCV.out.below hb2 HCV.out.lt)
      have KB2 := Lib.hid (KBV.out.below hb2 KBV.out.lt)
      have B2 := Lib.hid (BV.out.trans (hb2.mono BV.out.size))
      have f1 : (f0 : Int) < (n : Int) + 1 := by omega
      have f2 : f0 < n + 1 := by omega
      clear hb2
      go_upto_region 7 with fail
      refine wp_region_make0 9 (by kernel_rfl) (by kernel_rfl) (by kernel_rfl) ?_
      apply Exists.intro
      refine ⟨fun R hR hN => ?_, ?_⟩
      · have q0 := fun z => LaterR.read (R := R) HC2.out f0 _ (by rw [rowA_at f2, hcv]) z
        have a0 := fun z => LaterR.read (R := R) KS2.out 0 _ rfl z
        have a1 := fun z => LaterR.read (R := R) KS2.out 1 _ rfl z
        have a2 := fun z => LaterR.read (R := R) KS2.out 2 _ rfl z
        have a3 := fun z => LaterR.read (R := R) KS2.out 3 _ rfl z
        have b0 := fun z => LaterR.read (R := R) KB2.out 0 _ rfl z
        simp only [List.take_succ_cons, List.take_zero]
        repeat (go_big_quiet_step (first | (go_at_call 26; exact LaterR.calls hR (CY.out _))))
        exact wpQuiet_nil rfl
      · intro w3 hb3
        simp only [List.drop_succ_cons, List.drop_zero]
        have h3 := HC2.out.below hb3 HC2.out.lt
        have q0 := h3.cell f0 _ (by rw [rowA_at f2, hcv])
        have fz := has_fro h3
        have B3 := Lib.hid (B2.out.trans (hb3.mono B2.out.size))
        have R1 : Hid (Has (w3.setCell ⟨C, f0, none⟩ (.int .i64 (cv - z))) C (rowA (chgL x0 y n (L.take (k + 1))) (n + 1)) 3) := Lib.hid (by
          have := has_set h3 f0 (.int .i64 (cv - z))
          rwa [rowA_set (G := chgL x0 y n (L.take (k + 1))) HNEW.out.1 HNEW.out.2] at this)
        have R2 : Hid (Below W.heap.size W (w3.setCell ⟨C, f0, none⟩ (.int .i64 (cv - z)))) := Lib.hid (B3.out.setCell (show W.heap.size ≤ C by rw [CW.out]; exact Nat.le_refl _) _)
        clear h3 hb3
        go_wp2
        go_roundw
        case rel => exact ⟨k + 1, by omega, by go_num, R1.out, R2.out⟩
        case measure => simp [intOf]; omega
    · obtain rfl : k = M := by omega
      have o3 : ¬ (k : Int) < k := by omega
      have HC1 : Hid (Has wr C (rowA (chgL x0 y n L) (n + 1)) 3) := Lib.hid (by have := HC.out; rwa [List.take_of_length_le (by rw [EM.out]; exact Nat.le_refl _)] at this)
      have q5 : (n : Int) ≤ (n : Int) + 1 := by omega
      have q6 : n ≤ n + 1 := by omega
      have GW : Hid (w.grownBy wr (some g)) := Lib.hid (grownBy_own (World.grownBy.refl w _) (grownBy_below (B0.out.trans (HB.out.mono B0.out.size)) (Nat.le_refl _)) (fun k e => by cases e))
      have HG1 : Hid (Has wr g (rowA (addF F cb o m 0) N) 3) := Lib.hid (by rw [addF_zero]; exact HG.out.below HB.out HG.out.lt)
      have CG : Hid (C ≠ g ∧ w.heap.size ≤ C) := Lib.hid (by have h1 := CW.out; have h2 := B0.out.size; have h3 := HG.out.lt; have h4 := GLT.out; have h5 := KA.out.lt; omega)
      rw [HCC.out] at HC1
      clear HC HB HS HL HOK HCC
      go_wp2_with fail
      go_loopw [15, 47] (fun s i wk => ∃ j : Nat, j ≤ n ∧ i = .int .i64 j ∧ s = .int .i64 (sumN c j) ∧ Has wk C (rowA c (n + 1)) 3 ∧ Has wk g (rowA (addF F cb o m j) N) 3 ∧ w.grownBy wk (some g)) (fun _ i _ => n - (intOf i).toNat)
      case atStart => exact ⟨0, by omega, rfl, rfl, HC1.out, HG1.out, GW.out⟩
      case round =>
        clear HC1 HG1 GW
        obtain ⟨j, hj, rfl, rfl, h1, h2, h3⟩ := hrel
        have H1 := Lib.hid h1
        have H2 := Lib.hid h2
        have H3 := Lib.hid h3
        clear h1 h2 h3
        have SI := sumN_in (f := c) (m := 4194304) (n := j) (fun i _ => by have := CI.out i; have := EM.out; omega)
        have s1 : -16777216000 ≤ sumN c j ∧ sumN c j ≤ 16777216000 := by omega
        have ES : Hid (sumN c (j + 1) = sumN c j + c j) := Lib.hid rfl
        obtain ⟨s, hs⟩ : ∃ s, sumN c j = s := ⟨_, rfl⟩
        rw [hs] at s1 ES ⊢
        clear SI hs
        by_cases hlt2 : j < n
        · have o5 : (j : Int) < n := by omega
          have c0 := H1.out.cell j _ (rowA_at (by omega))
          have ci := CI.out j
          have cj : -4194304 ≤ c j ∧ c j ≤ 4194304 := by have := EM.out; omega
          have CWI := Lib.hid (fun w => c_within rule (s + c j) w)
          have ec := HCB.out j
          rw [ES.out] at ec
          rw [ec] at CWI
          obtain ⟨cv, hcv⟩ : ∃ v, c j = v := ⟨_, rfl⟩
          rw [hcv] at c0 cj CWI ES
          obtain ⟨b, hb⟩ : ∃ b, cb j = b := ⟨_, rfl⟩
          rw [hb] at CWI
          have HBJ := Lib.hid hb
          clear ec ci hcv hb
          go_wp2_with fail
          refine (CWI.out _).mono ?_
          rintro e w5 ⟨rfl, rfl⟩
          cases b
          · have E : Hid (addF F cb o m (j + 1) = addF F cb o m j) := Lib.hid (addF_no HBJ.out)
            go_wp2
            go_roundw
            case rel => exact ⟨j + 1, by omega, by go_num, by rw [ES.out], H1.out, by rw [E.out]; exact H2.out, H3.out⟩
            case measure => simp [intOf]; omega
          · have jm : j / 4 < m := by have := HN4.out; omega
            obtain ⟨t, ht⟩ : ∃ t, j / 4 = t := ⟨_, rfl⟩
            rw [ht] at jm
            have td : Int.tdiv (j : Int) 4 = (t : Int) := by rw [Int.tdiv_eq_ediv_of_nonneg (by omega)]; omega
            have td2 : (j : Int) / 4 = (t : Int) := by omega
            have tm : (t : Int) < m := by omega
            obtain ⟨E1, E2⟩ := addF_yes (F := F) (o := o) (m := m) HBJ.out ht jm
            have fi := addF_in (c := cb) (o := o) (m := m) (k := j) (t := o + t) HFB.out
            have g0 := H2.out.cell (o + t) _ (rowA_at (by have := HM.out; omega))
            obtain ⟨fv, hfv⟩ : ∃ v, addF F cb o m j (o + t) = v := ⟨_, rfl⟩
            rw [hfv] at E1 fi g0
            have fz := has_fro H2.out
            have R1 : Hid (Has (wr.setCell ⟨g, o + t, none⟩ (.int .i64 (fv + 1))) g (rowA (addF F cb o m (j + 1)) N) 3) := Lib.hid (by
              have := has_set H2.out (o + t) (.int .i64 (fv + 1))
              rwa [rowA_set (G := addF F cb o m (j + 1)) E1 E2] at this)
            have R2 : Hid (w.grownBy (wr.setCell ⟨g, o + t, none⟩ (.int .i64 (fv + 1))) (some g)) := Lib.hid (grownBy_set H3.out _ _)
            have R3 : Hid (Has (wr.setCell ⟨g, o + t, none⟩ (.int .i64 (fv + 1))) C (rowA c (n + 1)) 3) := Lib.hid (has_set_ne H1.out CG.out.1 _ _)
            clear E1 E2 hfv ht
            go_wp2
            go_roundw
            case rel => exact ⟨j + 1, by omega, by go_num, by rw [ES.out], R3.out, R1.out, R2.out⟩
            case measure => simp [intOf]; omega
        · obtain rfl : j = n := by omega
          have o5 : ¬ (j : Int) < j := by omega
          go_wp2
          go_end0
          exact ⟨rfl, H2.out, H3.out⟩

end Go.Proofs.Ytopepgifhnfbiaa

namespace Go.Proofs.Ytopepgifhnfbiaa
open Go Go.RowKit
open M

theorem place_id {x : Int} (h0 : -536870912 ≤ x) (h1 : x ≤ 536870912) : place x = x := place_in h0 h1
theorem place_gt {p s : Int} (h : s < p) (h1 : s < 536870912) : s < place p := by unfold place clamp; split <;> (try split) <;> omega
theorem place_lt {p s : Int} (h : p < s) (h1 : -536870912 < s) : place p < s := by unfold place clamp; split <;> (try split) <;> omega
theorem place_le {p s : Int} (h : p ≤ s) (h1 : -536870912 ≤ s) : place p ≤ s := by unfold place clamp; split <;> (try split) <;> omega
theorem up_ge (a : Int) : a ≤ up a * 65536 := by unfold up; split <;> omega
/-- Nothing is covered off the box. -/
theorem cov_off {rule x y : Int} {ys : List Po} (h : hasB (boxP (ptsN ys ys.length)) x y = false) : covY rule x y ys = 0 := by
  unfold covY covL
  by_cases hn : (nearB x && nearB y) = true
  · rw [if_pos hn]
    rw [Bool.and_eq_true, nearB_iff, nearB_iff] at hn
    obtain ⟨⟨x0, x1⟩, y0, y1⟩ := hn
    refine covN_no fun i hi => ?_
    suffices e : windY (smpX x i) (smpY y i) ys = 0 by rw [e]; unfold countB; simp
    obtain ⟨sx0, sx1, -, -, px, -⟩ := smp_in (x := x) x0 x1 hi
    obtain ⟨-, -, sy0, sy1, -, py⟩ := smp_in (x := y) y0 y1 hi
    unfold windY
    rw [px, py]
    generalize smpX x i = sx at *
    generalize smpY y i = sy at *
    unfold windN
    refine sumN_zero fun j hj => ?_
    have mem : ∀ p ∈ (po ys j).ps, p ∈ ptsN ys ys.length := ptsN_part hj
    rcases e : endsP (ptsN ys ys.length) with _ | ⟨a, b⟩
    · have e2 := endsP_none.1 e
      refine sumS_left fun p hp => ?_
      have := mem p hp
      rw [e2] at this; cases this
    · obtain ⟨hall, -⟩ := ends_all _ a b e
      have hb : boxP (ptsN ys ys.length) = ⟨dn a.x, dn a.y, up b.x, up b.y⟩ := by unfold boxP; rw [e]; rfl
      rw [hb] at h
      have h4 : x < dn a.x ∨ up b.x ≤ x ∨ y < dn a.y ∨ up b.y ≤ y := by
        apply Classical.byContradiction
        intro hno
        rw [hasB_iff.2 (by simp only; omega)] at h
        cases h
      have u1 := up_ge b.x
      have u2 := up_ge b.y
      unfold dn at h4
      rcases h4 with h4 | h4 | h4 | h4
      · refine sumS_right fun p hp => place_gt ?_ (by omega)
        have := (hall p (mem p hp)).1
        omega
      · refine sumS_left fun p hp => place_lt ?_ (by omega)
        have := (hall p (mem p hp)).2.2.1
        omega
      · refine sumS_over (Or.inl fun p hp => place_gt ?_ (by omega))
        have := (hall p (mem p hp)).2.1
        omega
      · refine sumS_over (Or.inr fun p hp => place_le ?_ (by omega))
        have := (hall p (mem p hp)).2.2.2
        omega
  · rw [if_neg hn]

/-- What the first k lines add up to. -/
def rowF (rule y x0 : Int) (q : Bo) (ys : List Po) (k : Nat) (t : Nat) : Int := if q.x0 ≤ x0 + (t : Int) ∧ x0 + (t : Int) < q.x1 then (covN (fun a b => windY a b ys) rule (x0 + (t : Int)) y (4 * k) : Nat) else 0
theorem rowF_zero (rule y x0 : Int) (q : Bo) (ys : List Po) : rowF rule y x0 q ys 0 = fun _ => 0 := by
  funext t
  unfold rowF
  split
  · rfl
  · rfl
theorem rowF_in (rule y x0 : Int) (q : Bo) (ys : List Po) {k : Nat} (hk : k ≤ 4) (t : Nat) : 0 ≤ rowF rule y x0 q ys k t ∧ rowF rule y x0 q ys k t ≤ 1000 := by
  have := covN_le (fun a b => windY a b ys) rule (x0 + (t : Int)) y (4 * k)
  unfold rowF
  split <;> omega
/-- What is met: the pixels of the row that the box has. -/
theorem meet_row {b : Bo} {x0 x1 y : Int} (h : emptyB (meetB b ⟨x0, y, x1, y + 1⟩) = false) : (meetB b ⟨x0, y, x1, y + 1⟩).y0 = y ∧ (meetB b ⟨x0, y, x1, y + 1⟩).y1 = y + 1 ∧ x0 ≤ (meetB b ⟨x0, y, x1, y + 1⟩).x0 ∧ (meetB b ⟨x0, y, x1, y + 1⟩).x0 < (meetB b ⟨x0, y, x1, y + 1⟩).x1 ∧ (meetB b ⟨x0, y, x1, y + 1⟩).x1 ≤ x1 := by
  have h1 := le_maxI b.x0 x0
  have h2 := le_maxI b.y0 y
  have h3 := minI_le b.x1 x1
  have h4 := minI_le b.y1 (y + 1)
  unfold meetB at *
  cases he : emptyB (capB b ⟨x0, y, x1, y + 1⟩)
  · rw [orZ_no he]
    have h5 := emptyB_not he
    simp only [capB] at *
    omega
  · rw [orZ_yes he] at h
    simp [emptyB, zeroB] at h
theorem cov_row_off {rule y x0 x1 : Int} {ys : List Po} {t : Nat} (ht : x0 + (t : Int) < x1) (h : emptyB (meetB (boxP (ptsN ys ys.length)) ⟨x0, y, x1, y + 1⟩) = true) : covY rule (x0 + (t : Int)) y ys = 0 := by
  refine cov_off ?_
  have e := meet_has (boxP (ptsN ys ys.length)) ⟨x0, y, x1, y + 1⟩ (x0 + (t : Int)) y
  have er : hasB (⟨x0, y, x1, y + 1⟩ : Bo) (x0 + (t : Int)) y = true := hasB_iff.2 (by simp only; omega)
  rw [er, Bool.and_true] at e
  clear er
  rw [← e, Bool.eq_false_iff]
  intro hh
  rw [hasB_iff] at hh
  rw [emptyB_iff] at h
  omega
theorem cov_row_in {rule y x0 x1 : Int} {ys : List Po} {t : Nat} (ht : x0 + (t : Int) < x1) (a0 : -256 ≤ x0) (a1 : x1 ≤ 256) (b0 : -256 ≤ y) (b1 : y ≤ 256) (h : emptyB (meetB (boxP (ptsN ys ys.length)) ⟨x0, y, x1, y + 1⟩) = false) : rowF rule y x0 (meetB (boxP (ptsN ys ys.length)) ⟨x0, y, x1, y + 1⟩) ys 4 t = (covY rule (x0 + (t : Int)) y ys : Nat) := by
  have hm := meet_row h
  have e := meet_has (boxP (ptsN ys ys.length)) ⟨x0, y, x1, y + 1⟩ (x0 + (t : Int)) y
  have er : hasB (⟨x0, y, x1, y + 1⟩ : Bo) (x0 + (t : Int)) y = true := hasB_iff.2 (by simp only; omega)
  rw [er, Bool.and_true] at e
  clear er
  generalize meetB (boxP (ptsN ys ys.length)) ⟨x0, y, x1, y + 1⟩ = q at *
  unfold rowF
  by_cases hq : q.x0 ≤ x0 + (t : Int) ∧ x0 + (t : Int) < q.x1
  · rw [if_pos hq]
    unfold covY covL
    rw [if_pos (by rw [Bool.and_eq_true, nearB_iff, nearB_iff]; omega)]
  · rw [if_neg hq, cov_off (by rw [← e, Bool.eq_false_iff]; intro hh; rw [hasB_iff] at hh; omega)]
    rfl
/-- One line more. -/
theorem rowF_step {rule y x0 y0 y1 : Int} {q : Bo} {ys : List Po} {k o m N : Nat} (hk : k < 4) (ho : q.x0 - x0 = o) (hm : q.x1 - q.x0 = m) (a0 : -256 ≤ x0) (a1 : x0 ≤ 256) (b0 : -256 ≤ y) (b1 : y ≤ 256) (hN : N ≤ 1000) (z0 : y0 ≤ y * 65536 + (k : Int) * 16384 + 8192) (z1 : y * 65536 + (k : Int) * 16384 + 8192 ≤ y1) :
    rowA (addF (rowF rule y x0 q ys k) (fun i => countB rule (sumN (chgL q.x0 (y * 65536 + (k : Int) * 16384 + 8192) (4 * m) (sdR y0 y1 (fun i => (po ys i).ps) ys.length)) (i + 1))) o m (4 * m)) N = rowA (rowF rule y x0 q ys (k + 1)) N := by
  refine rowA_cong fun t ht => ?_
  unfold addF
  by_cases h : o ≤ t ∧ t < o + m
  · rw [if_pos h, addN_all _ (show t - o < m by omega)]
    have hq : q.x0 ≤ x0 + (t : Int) ∧ x0 + (t : Int) < q.x1 := by omega
    unfold rowF
    rw [if_pos hq, if_pos hq, covN_line]
    have key : ∀ c : Nat, c < 4 → sumN (chgL q.x0 (y * 65536 + (k : Int) * 16384 + 8192) (4 * m) (sdR y0 y1 (fun i => (po ys i).ps) ys.length)) (4 * (t - o) + c + 1) = windY (colX (x0 + (t : Int)) c) (y * 65536 + (k : Int) * 16384 + 8192) ys := by
      intro c hc
      rw [chg_wind z0 z1 _ _ (show 4 * (t - o) + c < 4 * m by omega), colX_pixel, show q.x0 + ((t - o : Nat) : Int) = x0 + (t : Int) by omega]
      unfold windY
      rw [place_id (x := colX (x0 + (t : Int)) c) (by unfold colX; omega) (by unfold colX; omega), place_id (x := y * 65536 + (k : Int) * 16384 + 8192) (by omega) (by omega)]
    have k0 := key 0 (by omega)
    have k1 := key 1 (by omega)
    have k2 := key 2 (by omega)
    have k3 := key 3 (by omega)
    simp only [Nat.add_zero] at k0
    simp only [k0, k1, k2, k3]
    omega
  · rw [if_neg h]
    unfold rowF
    rw [if_neg (by omega), if_neg (by omega)]

end Go.Proofs.Ytopepgifhnfbiaa

namespace Go.Proofs.Ytopepgifhnfbiaa
open Go Go.RowKit
open M

set_option maxRecDepth 100000 in
set_option maxHeartbeats 4000000 in
theorem c_at {v : Value} {ys : List Po} {w : World} (rule x y : Int) (h : Ysl w v ys) (hf : (ptsN ys ys.length).length ≤ 4194304) :
    Calls Try.prog 15 #[v, .int .i64 rule, .int .i64 x, .int .i64 y] w fun r w' => r = .returned (.int .i64 (covY rule x y ys : Nat)) ∧ Below w.heap.size w w' := by
  have HS := Lib.hid h
  have HC := Lib.hid hf
  clear h hf
  by_cases hx : nearB x = true
  · by_cases hy : nearB y = true
    · obtain ⟨x0, x1⟩ := nearB_iff.1 hx
      obtain ⟨y0, y1⟩ := nearB_iff.1 hy
      have EC : Hid (covY rule x y ys = covN (fun a b => windY a b ys) rule x y 16) := Lib.hid (by unfold covY covL; rw [hx, hy]; rfl)
      rw [EC.out]
      have WC := Lib.hid (fun (a b : Int) (w1 : World) (hb : Below w.heap.size w w1) => c_wind a b (HS.out.below hb) HC.out)
      obtain ⟨W, hW⟩ : ∃ W, (fun a b => windY a b ys) = W := ⟨_, rfl⟩
      have eW : ∀ a b, windY a b ys = W a b := fun a b => by rw [← hW]
      simp only [eW] at WC
      rw [hW]
      have XN := Lib.hid (show nearB x = true from hx)
      have YN := Lib.hid (show nearB y = true from hy)
      clear hW eW EC hx hy HS HC
      go_enter Try.func15, Try.ntmps15
      go_wp2_with (first | (go_at_call_of 28 x; refine (c_asked x _).mono ?_; rintro e w' ⟨rfl, rfl⟩; rw [XN.out]) | (go_at_call_of 28 y; refine (c_asked y _).mono ?_; rintro e w' ⟨rfl, rfl⟩; rw [YN.out]))
      go_loopw [9, 19] (fun s i wr => ∃ k : Nat, k ≤ 16 ∧ i = .int .i64 k ∧ s = .int .i64 (covN W rule x y k : Nat) ∧ Below w.heap.size w wr) (fun _ i _ => 16 - (intOf i).toNat)
      case atStart => exact ⟨0, by omega, rfl, rfl, Below.refl _ _⟩
      case round =>
        obtain ⟨k, hk, rfl, rfl, hb⟩ := hrel
        have HB := Lib.hid hb
        have hcn := covN_le W rule x y k
        have hst : covN W rule x y (k + 1) = covN W rule x y k + if countB rule (W (smpX x k) (smpY y k)) = true then 1 else 0 := rfl
        obtain ⟨n, hn⟩ : ∃ n, covN W rule x y k = n := ⟨_, rfl⟩
        rw [hn] at hcn hst ⊢
        have HN := Lib.hid hn
        clear hn
        by_cases hlt : k < 16
        · have o3 : (k : Int) < 16 := by omega
          obtain ⟨W0, hW0⟩ : ∃ z, W (smpX x k) (smpY y k) = z := ⟨_, rfl⟩
          have ST := Lib.hid hst
          have r0 : 0 ≤ Int.tmod (k : Int) 4 ∧ Int.tmod (k : Int) 4 ≤ 3 := by rw [Int.tmod_eq_emod_of_nonneg (by omega)]; omega
          have d0 : 0 ≤ Int.tdiv (k : Int) 4 ∧ Int.tdiv (k : Int) 4 ≤ 3 := by rw [Int.tdiv_eq_ediv_of_nonneg (by omega)]; omega
          have ex : x * 65536 + Int.tmod (k : Int) 4 * 16384 + 8192 = smpX x k := by unfold smpX; rw [Int.tmod_eq_emod_of_nonneg (by omega)]; omega
          have ey : y * 65536 + Int.tdiv (k : Int) 4 * 16384 + 8192 = smpY y k := by unfold smpY; rw [Int.tdiv_eq_ediv_of_nonneg (by omega)]; omega
          obtain ⟨p, hp⟩ : ∃ p, Int.tmod (k : Int) 4 = p := ⟨_, rfl⟩
          obtain ⟨q, hq⟩ : ∃ q, Int.tdiv (k : Int) 4 = q := ⟨_, rfl⟩
          rw [hp] at r0 ex
          rw [hq] at d0 ey
          have P1 := Lib.hid (fun w => c_place (x := x) (c := p) (by omega) (by omega) r0.1 (by omega) w)
          have P2 := Lib.hid (fun w => c_place (x := y) (c := q) (by omega) (by omega) d0.1 (by omega) w)
          rw [ex] at P1
          rw [ey] at P2
          have HW0 := Lib.hid hW0
          have CI := Lib.hid (fun w => c_within rule W0 w)
          obtain ⟨b, hb2⟩ : ∃ b, countB rule W0 = b := ⟨_, rfl⟩
          rw [HW0.out, hb2] at ST
          rw [hb2] at CI
          obtain ⟨q0, q3⟩ := d0
          clear ex ey hst hW0 r0 hb2
          go_upto_region 7 with fail
          go_wp2_with fail
          refine (P1.out _).mono ?_
          rintro e w' ⟨rfl, rfl⟩
          go_wp2_with fail
          refine (P2.out _).mono ?_
          rintro e w' ⟨rfl, rfl⟩
          go_wp2_with fail
          refine (WC.out _ _ _ HB.out).mono ?_
          rintro e w2 ⟨rfl, b2⟩
          rw [HW0.out]
          go_wp2_with fail
          refine (CI.out _).mono ?_
          rintro e w3 ⟨rfl, rfl⟩
          have BW : Hid (Below w.heap.size w w2) := Lib.hid (HB.out.trans (b2.mono HB.out.size))
          clear b2 hb
          cases b
          · have E := ST.out
            simp only [Bool.false_eq_true, if_false, Nat.add_zero] at E
            go_wp2
            go_roundw
            case rel => exact ⟨k + 1, by omega, by go_num, by first | (rw [E]; done) | (rw [E]; go_num), BW.out⟩
            case measure => simp [intOf]; omega
          · have E := ST.out
            simp only [if_true] at E
            go_wp2
            go_roundw
            case rel => exact ⟨k + 1, by omega, by go_num, by first | (rw [E]; done) | (rw [E]; go_num), BW.out⟩
            case measure => simp [intOf]; omega
        · obtain rfl : k = 16 := by omega
          have o3 : ¬ ((16 : Nat) : Int) < 16 := by omega
          go_wp2
          go_ret
          exact ⟨by rw [HN.out]; rfl, hb⟩
    · have e : covY rule x y ys = 0 := by unfold covY covL; rw [Bool.eq_false_iff.2 hy]; simp
      rw [e]
      have XN := Lib.hid (show nearB x = true from hx)
      have YN := Lib.hid (Bool.eq_false_iff.2 hy)
      clear e hx hy
      go_enter Try.func15, Try.ntmps15
      go_wp2_with (first | (go_at_call_of 28 x; refine (c_asked x _).mono ?_; rintro e w' ⟨rfl, rfl⟩; rw [XN.out]) | (go_at_call_of 28 y; refine (c_asked y _).mono ?_; rintro e w' ⟨rfl, rfl⟩; rw [YN.out]))
      go_ret
      exact ⟨rfl, Below.refl _ _⟩
  · have e : covY rule x y ys = 0 := by unfold covY covL; rw [Bool.eq_false_iff.2 hx]; simp
    rw [e]
    have XN := Lib.hid (Bool.eq_false_iff.2 hx)
    clear e hx
    go_enter Try.func15, Try.ntmps15
    go_wp2_with (first | (go_at_call_of 28 x; refine (c_asked x _).mono ?_; rintro e w' ⟨rfl, rfl⟩; rw [XN.out]))
    go_ret
    exact ⟨rfl, Below.refl _ _⟩

end Go.Proofs.Ytopepgifhnfbiaa

namespace Go.Proofs.Ytopepgifhnfbiaa
open Go Go.RowKit
open M

theorem nearB_off {x : Int} (h : nearB x = false) : x < -256 ∨ 256 < x := nearB_no h
set_option maxRecDepth 100000 in
set_option maxHeartbeats 8000000 in
theorem c_row {v : Value} {ys : List Po} {w : World} (rule y x0 x1 : Int) (h : Ysl w v ys) (hc : Cv ys) :
    Calls Try.prog 21 #[v, .int .i64 rule, .int .i64 y, .int .i64 x0, .int .i64 x1] w fun r w' => (∃ u, r = .returned u ∧ Isl w' u (rowL rule y x0 x1 ys)) ∧ Below w.heap.size w w' := by
  have HS := Lib.hid h
  have HC := Lib.hid hc
  clear h hc
  by_cases hx : nearB x0 = true
  · by_cases hx1 : nearB x1 = true
    · obtain ⟨a0, a1⟩ := nearB_iff.1 hx
      obtain ⟨b0, b1⟩ := nearB_iff.1 hx1
      have XN := Lib.hid hx
      have YN := Lib.hid hx1
      clear hx hx1
      by_cases hlt : x0 < x1
      · rw [rowL_in a0 b1]
        obtain ⟨N, hN⟩ : ∃ N : Nat, (x1 - x0).toNat = N := ⟨_, rfl⟩
        rw [hN]
        have hN2 : x1 - x0 = N := by omega
        have q3 : (N : Int) ≤ 512 := by omega
        clear hN
        have mk := make_ints (n := N) (by omega)
        obtain ⟨G, hG⟩ : ∃ G, w.heap.size = G := ⟨_, rfl⟩
        obtain ⟨V, hV⟩ : ∃ V, w.alloc (.cells (rowA (fun _ => 0) N) 3) = V := ⟨_, rfl⟩
        have kg : Has V G (rowA (fun _ => 0) N) 3 := by rw [← hV]; exact has_new hG
        have bV : Below w.heap.size w V := by rw [← hV]; exact (Below.refl _ _).alloc (Nat.le_refl _) _
        have KG := Lib.hid kg
        have BV := Lib.hid bV
        have HV := Lib.hid hV
        have GW : Hid (w.heap.size = G) := Lib.hid hG
        have RZ : Hid (∀ W' c, Has W' G (rowA (fun _ => 0) N) 3 → (∀ t : Nat, t < N → covY rule (x0 + (t : Int)) y ys = 0) → Isl W' (.slice (some ⟨G, 0, none⟩) N c) (rowN rule y x0 ys N)) := Lib.hid (fun W' c hh h0 => isl_row hh (rowN_length _ _ _ _ _) (by omega) (fun i hi => by rw [rowN_at hi, h0 i hi]; rfl) c)
        clear kg bV hV
        by_cases hy : nearB y = true
        · obtain ⟨c0, c1⟩ := nearB_iff.1 hy
          have ZN := Lib.hid hy
          clear hy
          have YV := Lib.hid (HS.out.below BV.out)
          have BO := Lib.hid (b_of YV.out HC.out.pi)
          have BM := Lib.hid (fun w => b_meet (boxP (ptsN ys ys.length)) ⟨x0, y, x1, y + 1⟩ w)
          obtain ⟨⟨t0, t1, t2, t3⟩, hb⟩ : ∃ b, boxP (ptsN ys ys.length) = b := ⟨_, rfl⟩
          obtain ⟨q, hq⟩ : ∃ q, meetB (boxP (ptsN ys ys.length)) ⟨x0, y, x1, y + 1⟩ = q := ⟨_, rfl⟩
          rw [hq] at BM
          rw [hb] at BO BM
          have BE := Lib.hid (fun w => b_empty q w)
          have OFF : Hid (emptyB q = true → ∀ t : Nat, t < N → covY rule (x0 + (t : Int)) y ys = 0) := Lib.hid (fun he t ht => cov_row_off (x1 := x1) (by omega) (by rw [hq]; exact he))
          have INN : Hid (emptyB q = false → ∀ t : Nat, t < N → rowF rule y x0 q ys 4 t = (covY rule (x0 + (t : Int)) y ys : Nat)) := Lib.hid (fun he t ht => by have := cov_row_in (rule := rule) (t := t) (x0 := x0) (x1 := x1) (y := y) (ys := ys) (by omega) a0 b1 c0 c1 (by rw [hq]; exact he); rwa [hq] at this)
          have MR : Hid (emptyB q = false → q.y0 = y ∧ q.y1 = y + 1 ∧ x0 ≤ q.x0 ∧ q.x0 < q.x1 ∧ q.x1 ≤ x1) := Lib.hid (fun he => by have := meet_row (b := boxP (ptsN ys ys.length)) (x0 := x0) (x1 := x1) (y := y) (by rw [hq]; exact he); rwa [hq] at this)
          have ROW : Hid (∀ W', Has W' G (rowA (rowF rule y x0 q ys 4) N) 3 → emptyB q = false → ∀ c, Isl W' (.slice (some ⟨G, 0, none⟩) N c) (rowN rule y x0 ys N)) := Lib.hid (fun W' hh he c => isl_row hh (rowN_length _ _ _ _ _) (by omega) (fun i hi => by rw [rowN_at hi, INN.out he i hi]) c)
          obtain ⟨ao, n, cap, rfl⟩ : ∃ ao n cap, v = .slice ao n cap := by obtain ⟨ao, cap, e, _⟩ := HS.out; exact ⟨_, _, _, e⟩
          clear hb hq
          go_enter Try.func21, Try.ntmps21
          go_upto_region 4 with (first | (go_at_call_of 28 x0; refine (c_asked x0 _).mono ?_; rintro e w' ⟨rfl, rfl⟩; rw [XN.out]) | (go_at_call_of 28 x1; refine (c_asked x1 _).mono ?_; rintro e w' ⟨rfl, rfl⟩; rw [YN.out]))
          rw [HV.out]
          clear hG mk
          go_upto_region 6 with (go_at_call_of 28 y; refine (c_asked y _).mono ?_; rintro e w' ⟨rfl, rfl⟩; rw [ZN.out])
          go_wp2_with fail
          refine BO.out.mono ?_
          rintro e w1 ⟨rfl, hb1⟩
          go_wp2_with fail
          refine (BM.out _).mono ?_
          rintro e w2 ⟨rfl, hb2⟩
          obtain ⟨Q, hQ⟩ : ∃ G, w2.heap.size = G := ⟨_, rfl⟩
          obtain ⟨V2, hV2⟩ : ∃ V, w2.alloc (.cells (bCells q) 41) = V := ⟨_, rfl⟩
          have kq : Has V2 Q (bCells q) 41 := by rw [← hV2]; exact has_new hQ
          have b2 : Below w2.heap.size w2 V2 := by rw [← hV2]; exact (Below.refl _ _).alloc (Nat.le_refl _) _
          have b3 : Below V.heap.size V V2 := hb1.trans ((hb2.trans (b2.mono hb2.size)).mono hb1.size)
          have KQ := Lib.hid kq
          have B3 := Lib.hid b3
          have KG3 := Lib.hid (KG.out.below b3 KG.out.lt)
          have HV2 := Lib.hid hV2
          have QG : Hid (Q ≠ G) := Lib.hid (by have h1 := KG.out.lt; have h2 := hb1.size; have h3 := hb2.size; omega)
          obtain ⟨qx0, qy0, qx1, qy1⟩ := q
          clear kq b2 b3 hb1 hb2 hV2
          go_upto_region 7 with fail
          rw [HV2.out]
          clear hQ
          have d0 := KQ.out.cell 0 _ rfl
          have d1 := KQ.out.cell 1 _ rfl
          have d2 := KQ.out.cell 2 _ rfl
          have d3 := KQ.out.cell 3 _ rfl
          go_wp2_with fail
          refine (BE.out _).mono ?_
          rintro e w3 ⟨rfl, hb4⟩
          have B4 := Lib.hid (B3.out.trans (hb4.mono B3.out.size))
          have KQ4 := Lib.hid (KQ.out.below hb4 KQ.out.lt)
          have KG4 := Lib.hid (KG.out.below B4.out KG.out.lt)
          clear d0 d1 d2 d3 hb4
          obtain ⟨em, hem⟩ : ∃ b, emptyB ⟨qx0, qy0, qx1, qy1⟩ = b := ⟨_, rfl⟩
          rw [hem] at OFF INN MR ROW ⊢
          clear hem INN
          cases em
          · obtain ⟨e0, e1, g0, g1, g2⟩ := MR.out rfl
            obtain ⟨o, ho⟩ : ∃ o : Nat, qx0 - x0 = o := ⟨(qx0 - x0).toNat, by omega⟩
            obtain ⟨p, hp⟩ : ∃ p : Nat, qx1 - x0 = p := ⟨(qx1 - x0).toNat, by omega⟩
            obtain ⟨YA, hYA⟩ : ∃ z, y * 65536 + 8192 = z := ⟨_, rfl⟩
            obtain ⟨YB, hYB⟩ : ∃ z, y * 65536 + 57344 = z := ⟨_, rfl⟩
            have P0 : Hid (∀ w, Calls Try.prog 30 #[.int .i64 y, .int .i64 0] w fun e w' => e = .returned (.int .i64 YA) ∧ w = w') := Lib.hid (fun w => by have := c_place (x := y) (c := 0) (by omega) (by omega) (by omega) (by omega) w; rwa [show y * 65536 + 0 * 16384 + 8192 = YA by omega] at this)
            have P3 : Hid (∀ w, Calls Try.prog 30 #[.int .i64 y, .int .i64 3] w fun e w' => e = .returned (.int .i64 YB) ∧ w = w') := Lib.hid (fun w => by have := c_place (x := y) (c := 3) (by omega) (by omega) (by omega) (by omega) w; rwa [show y * 65536 + 3 * 16384 + 8192 = YB by omega] at this)
            have B5 := Lib.hid (BV.out.trans (B4.out.mono BV.out.size))
            have SC := Lib.hid (c_sides YA YB (HS.out.below B5.out) HC.out.few)
            have LM : Hid ((sdR YA YB (fun i => (po ys i).ps) ys.length).length ≤ 4194304) := Lib.hid (Nat.le_trans (sd_total (fun i => rfl) _) HC.out.few)
            have OK := Lib.hid (sdR_ok YA YB (fun i => (po ys i).ps) ys.length)
            have ST : Hid (∀ k : Nat, k < 4 → ∀ z, y * 65536 + (k : Int) * 16384 + 8192 = z → rowA (addF (rowF rule y x0 ⟨qx0, qy0, qx1, qy1⟩ ys k) (fun i => countB rule (sumN (chgL qx0 z (4 * (p - o)) (sdR YA YB (fun i => (po ys i).ps) ys.length)) (i + 1))) o (p - o) (4 * (p - o))) N = rowA (rowF rule y x0 ⟨qx0, qy0, qx1, qy1⟩ ys (k + 1)) N) := Lib.hid (fun k hk z hz => by
              subst hz
              exact rowF_step (q := ⟨qx0, qy0, qx1, qy1⟩) hk (by simp only; omega) (by simp only; omega) a0 a1 c0 c1 (by omega) (by omega) (by omega))
            obtain ⟨L, hL⟩ : ∃ L, sdR YA YB (fun i => (po ys i).ps) ys.length = L := ⟨_, rfl⟩
            rw [hL] at SC LM OK ST
            have RI : Hid (∀ k, k ≤ 4 → ∀ t, 0 ≤ rowF rule y x0 ⟨qx0, qy0, qx1, qy1⟩ ys k t ∧ rowF rule y x0 ⟨qx0, qy0, qx1, qy1⟩ ys k t ≤ 1000) := Lib.hid (fun k hk t => rowF_in _ _ _ _ _ hk t)
            have R0 : Hid (rowF rule y x0 ⟨qx0, qy0, qx1, qy1⟩ ys 0 = fun _ => 0) := Lib.hid (rowF_zero _ _ _ _ _)
            obtain ⟨Fk, hFk⟩ : ∃ F, rowF rule y x0 ⟨qx0, qy0, qx1, qy1⟩ ys = F := ⟨_, rfl⟩
            rw [hFk] at ST RI R0 ROW
            clear hYA hYB hL hFk e0 e1
            go_wp2_with fail
            refine (P0.out _).mono ?_
            rintro e w' ⟨rfl, rfl⟩
            go_wp2_with fail
            refine (P3.out _).mono ?_
            rintro e w' ⟨rfl, rfl⟩
            go_wp2_with fail
            refine SC.out.mono ?_
            rintro e w5 ⟨u, rfl, hu, hb5⟩
            have DU := Lib.hid hu
            have UB : Hid (∀ k, u.ownBlock = some k → w3.heap.size ≤ k) := Lib.hid (fun k e => (hu.base k e).1)
            have KQ5 := Lib.hid (KQ4.out.below hb5 KQ4.out.lt)
            have KG5 : Hid (Has w5 G (rowA (Fk 0) N) 3) := Lib.hid (by rw [R0.out]; exact KG4.out.below hb5 KG4.out.lt)
            have B6 := Lib.hid (B5.out.trans (hb5.mono B5.out.size))
            have GL := Lib.hid KG4.out.lt
            clear hu hb5
            go_wp2_with fail
            go_loopw [54] (fun i wr => ∃ k : Nat, k ≤ 4 ∧ i = .int .i64 k ∧ Has wr G (rowA (Fk k) N) 3 ∧ Has wr Q (bCells ⟨qx0, qy0, qx1, qy1⟩) 41 ∧ Down 57 wr w3.heap.size u L ∧ Below w.heap.size w wr) (fun i _ => 4 - (intOf i).toNat)
            case atStart => exact ⟨0, by omega, rfl, KG5.out, KQ5.out, DU.out, B6.out⟩
            case round =>
              clear KG5 KQ5 DU B6
              obtain ⟨k, hk, rfl, h1, h2, h3, h4⟩ := hrel
              have H1 := Lib.hid h1
              have H2 := Lib.hid h2
              have H3 := Lib.hid h3
              have H4 := Lib.hid h4
              clear h1 h2 h3 h4
              by_cases hk4 : k < 4
              · have o5 : (k : Int) < 4 := by omega
                obtain ⟨YK, hYK⟩ : ∃ z, y * 65536 + (k : Int) * 16384 + 8192 = z := ⟨_, rfl⟩
                have PK : Hid (∀ w, Calls Try.prog 30 #[.int .i64 y, .int .i64 (k : Int)] w fun e w' => e = .returned (.int .i64 YK) ∧ w = w') := Lib.hid (fun w => by have := c_place (x := y) (c := k) (by omega) (by omega) (by omega) (by omega) w; rwa [hYK] at this)
                have SK := Lib.hid (ST.out k hk4 YK hYK)
                have YI : Hid (-536870912 ≤ YK ∧ YK ≤ 536870912) := Lib.hid (by omega)
                have op : o ≤ p := by omega
                have pN : p ≤ N := by omega
                have op1 : (o : Int) ≤ p := by omega
                have pN1 : (p : Int) ≤ N := by omega
                clear hYK
                go_upto_region 13 with fail
                refine wp_region_make0 17 (by kernel_rfl) (by kernel_rfl) (by kernel_rfl) ?_
                apply Exists.intro
                refine ⟨fun R hR hN => ?_, ?_⟩
                · have d0 := fun z => LaterR.read (R := R) H2.out 0 _ rfl z
                  have d2 := fun z => LaterR.read (R := R) H2.out 2 _ rfl z
                  simp only [List.take_succ_cons, List.take_zero]
                  repeat (go_big_quiet_step (first | (go_at_call 30; exact LaterR.calls hR (stillB (PK.out _)))))
                  exact wpQuiet_nil rfl
                · intro w6 hb6
                  simp only [List.drop_succ_cons, List.drop_zero]
                  go_wp2_with fail
                  have D6 := H3.out.below hb6 (Nat.le_refl _)
                  have G6 := H1.out.below hb6 H1.out.lt
                  have Q6 := H2.out.below hb6 H2.out.lt
                  have W6 := H4.out.trans (hb6.mono H4.out.size)
                  refine (c_addLine (L := L) (g := G) (o := o) (m := p - o) (N := N) (F := Fk k) rule qx0 YK D6.sl LM.out OK.out (by omega) (by omega) YI.out G6 (by omega) (by omega) (RI.out k hk)).mono ?_
                  rintro e w7 ⟨rfl, hg7, hw7⟩
                  rw [SK.out] at hg7
                  have R1 := Lib.hid hg7
                  have R2 : Hid (Has w7 Q (bCells ⟨qx0, qy0, qx1, qy1⟩) 41) := Lib.hid (has_grown Q6 hw7 QG.out)
                  have R3 : Hid (Down 57 w7 w3.heap.size u L) := Lib.hid (World.ownsRow.kept D6 hw7 (Or.inr (fun e => by have := UB.out _ e; have := GL.out; omega)))
                  have R4 : Hid (Below w.heap.size w w7) := Lib.hid (W6.grown hw7 W6.size (fun j e => by simp at e; have := GW.out; omega))
                  clear hg7 hw7 D6 G6 Q6 W6 hb6
                  go_wp2
                  go_roundw
                  case rel => exact ⟨k + 1, by omega, by go_num, R1.out, R2.out, R3.out, R4.out⟩
                  case measure => simp [intOf]; omega
              · obtain rfl : k = 4 := by omega
                have o5 : ¬ ((4 : Nat) : Int) < 4 := by omega
                have R := Lib.hid (ROW.out _ H1.out trivial N)
                go_wp2
                go_ret
                exact ⟨⟨_, rfl, R.out⟩, H4.out⟩
          · go_wp2
            go_ret
            exact ⟨⟨_, rfl, RZ.out _ _ KG4.out (by first | exact OFF.out rfl | exact OFF.out trivial)⟩, BV.out.trans (B4.out.mono BV.out.size)⟩
        · have ZN := Lib.hid (Bool.eq_false_iff.2 hy)
          have E : Hid (∀ t : Nat, t < N → covY rule (x0 + (t : Int)) y ys = 0) := Lib.hid (fun t _ => by unfold covY covL; rw [Bool.eq_false_iff.2 hy]; simp)
          clear hy
          go_enter Try.func21, Try.ntmps21
          go_upto_region 4 with (first | (go_at_call_of 28 x0; refine (c_asked x0 _).mono ?_; rintro e w' ⟨rfl, rfl⟩; rw [XN.out]) | (go_at_call_of 28 x1; refine (c_asked x1 _).mono ?_; rintro e w' ⟨rfl, rfl⟩; rw [YN.out]))
          rw [HV.out]
          clear hG
          go_wp2_with (go_at_call_of 28 y; refine (c_asked y _).mono ?_; rintro e w' ⟨rfl, rfl⟩; rw [ZN.out])
          go_ret
          exact ⟨⟨_, rfl, RZ.out _ _ KG.out E.out⟩, BV.out⟩
      · rw [rowL_none (Or.inl (by omega))]
        go_enter Try.func21, Try.ntmps21
        go_wp2_with (first | (go_at_call_of 28 x0; refine (c_asked x0 _).mono ?_; rintro e w' ⟨rfl, rfl⟩; rw [XN.out]) | (go_at_call_of 28 x1; refine (c_asked x1 _).mono ?_; rintro e w' ⟨rfl, rfl⟩; rw [YN.out]))
        go_ret
        exact ⟨⟨_, rfl, isl_nil _ _ _⟩, Below.refl _ _⟩
    · have h1 := Bool.eq_false_iff.2 hx1
      have h2 := nearB_off h1
      obtain ⟨a0, a1⟩ := nearB_iff.1 hx
      rw [rowL_none (by omega)]
      have XN := Lib.hid hx
      have YN := Lib.hid h1
      clear hx hx1 h1 h2
      go_enter Try.func21, Try.ntmps21
      go_wp2_with (first | (go_at_call_of 28 x0; refine (c_asked x0 _).mono ?_; rintro e w' ⟨rfl, rfl⟩; rw [XN.out]) | (go_at_call_of 28 x1; refine (c_asked x1 _).mono ?_; rintro e w' ⟨rfl, rfl⟩; rw [YN.out]))
      go_ret
      exact ⟨⟨_, rfl, isl_nil _ _ _⟩, Below.refl _ _⟩
  · have h1 := Bool.eq_false_iff.2 hx
    have h2 := nearB_off h1
    rw [rowL_none (by omega)]
    have XN := Lib.hid h1
    clear hx h1 h2
    go_enter Try.func21, Try.ntmps21
    go_wp2_with (go_at_call_of 28 x0; refine (c_asked x0 _).mono ?_; rintro e w' ⟨rfl, rfl⟩; rw [XN.out])
    go_ret
    exact ⟨⟨_, rfl, isl_nil _ _ _⟩, Below.refl _ _⟩

end Go.Proofs.Ytopepgifhnfbiaa

namespace Go.Proofs.Ytopepgifhnfbiaa
open Go Go.RowKit
open M

set_option maxRecDepth 100000 in
set_option maxHeartbeats 4000000 in
theorem l15_same {v : Value} {ys : List Po} {w : World} (rule y x0 x1 : Int) (h : Ysl w v ys) (hc : Cv ys) :
    Calls Try.prog 10 #[v, .int .i64 rule, .int .i64 y, .int .i64 x0, .int .i64 x1] w fun r w' => r = .returned (.bool true) ∧ Below w.heap.size w w' := by
  have HS := Lib.hid h
  have CA := Lib.hid (fun (x : Int) (w1 : World) (hb : Below w.heap.size w w1) => c_at rule x y (HS.out.below hb) hc.few)
  have CC := Lib.hid (fun (x : Int) (w1 : World) (hb : Below w.heap.size w w1) => r15_cover rule x y (HS.out.below hb))
  have CR := Lib.hid (c_row rule y x0 x1 h hc)
  clear h hc
  by_cases hr : x1 ≤ x0 ∨ x0 < -256 ∨ 256 < x1
  · rw [rowL_none hr] at CR
    go_enter Try.func10, Try.ntmps10
    go_wp2_with fail
    refine CR.out.mono ?_
    rintro e w1 ⟨⟨u, rfl, hu⟩, hb⟩
    obtain ⟨ao, cap, rfl⟩ := hu.slice
    have HB := Lib.hid hb
    clear hu hb
    simp only [List.length_nil]
    rcases (show x1 ≤ x0 ∨ (x0 < x1 ∧ x0 < -256) ∨ (x0 < x1 ∧ -256 ≤ x0 ∧ 256 < x1) by omega) with a | ⟨a, b⟩ | ⟨a, b, c⟩
    · clear hr
      go_wp2
      go_ret
      exact ⟨rfl, HB.out⟩
    · clear hr
      go_wp2
      go_ret
      exact ⟨rfl, HB.out⟩
    · clear hr
      go_wp2
      go_ret
      exact ⟨rfl, HB.out⟩
  · have q0 : x0 < x1 := by omega
    have q1 : -256 ≤ x0 := by omega
    have q2 : x1 ≤ 256 := by omega
    clear hr
    rw [rowL_in q1 q2] at CR
    obtain ⟨N, hN⟩ : ∃ N : Nat, (x1 - x0).toNat = N := ⟨_, rfl⟩
    rw [hN] at CR
    have hN2 : x1 - x0 = N := by omega
    have q3 : (N : Int) ≤ 512 := by omega
    clear hN
    go_enter Try.func10, Try.ntmps10
    go_wp2_with fail
    refine CR.out.mono ?_
    rintro e w1 ⟨⟨u, rfl, hu⟩, hb⟩
    obtain ⟨ao, cap, e⟩ := hu.slice
    rw [rowN_length] at e
    subst e
    have HU := Lib.hid hu
    have HB := Lib.hid hb
    clear hu hb
    go_wp2_with fail
    go_loopw [42] (fun i wr => ∃ k : Nat, k ≤ N ∧ i = .int .i64 k ∧ Below w1.heap.size w1 wr) (fun i _ => N - (intOf i).toNat)
    case atStart => exact ⟨0, by omega, rfl, Below.refl _ _⟩
    case round =>
      obtain ⟨k, hk, rfl, hb⟩ := hrel
      have HW := Lib.hid hb
      by_cases hlt : k < N
      · have o3 : (k : Int) < N := by omega
        obtain ⟨_, g, o, e1, hc⟩ := HU.out.at (by omega)
        subst e1
        have c0 := (hb.cell (p := ⟨g, o + k, none⟩) (World.block_lt_of_cell? _ _ (hc k hlt))).trans (hc k hlt)
        rw [rowN_at hlt] at c0
        have E1 := Lib.hid (CC.out (x0 + k) wr (HB.out.trans (hb.mono HB.out.size)))
        have E2 := Lib.hid (fun w2 (hq : Below wr.heap.size wr w2) => CA.out (x0 + k) w2 ((HB.out.trans (hb.mono HB.out.size)).trans (hq.mono (Nat.le_trans HB.out.size hb.size))))
        have q4 := covY_le rule (x0 + k) y ys
        obtain ⟨C, hC⟩ : ∃ C : Nat, covY rule (x0 + k) y ys = C := ⟨_, rfl⟩
        rw [hC] at c0 E1 E2 q4
        have glt := World.block_lt_of_cell? _ _ c0
        have C0 := Lib.hid c0
        clear hc hC c0 hb
        go_wp2_with fail
        refine E1.out.mono ?_
        rintro e w2 ⟨rfl, hb2⟩
        have c0 := (hb2.cell (p := ⟨g, o + k, none⟩) glt).trans C0.out
        have HB2 := Lib.hid hb2
        clear hb2
        go_wp2_with fail
        refine (E2.out _ HB2.out).mono ?_
        rintro e w3 ⟨rfl, hb3⟩
        have HB3 := Lib.hid (HW.out.trans ((HB2.out.trans (hb3.mono HB2.out.size)).mono HW.out.size))
        clear c0 hb3
        go_wp2
        go_roundw
        case rel => exact ⟨k + 1, by omega, by go_num, HB3.out⟩
        case measure => simp [intOf]; omega
      · obtain rfl : k = N := by omega
        have o3 : ¬ (k : Int) < k := by omega
        clear hb
        go_wp2
        go_ret
        exact ⟨rfl, HB.out.trans (HW.out.mono HB.out.size)⟩

end Go.Proofs.Ytopepgifhnfbiaa

namespace Go.Proofs.Ytopepgifhnfbiaa
open Go Go.RowKit
open M

def one15 : List Pt := [⟨0, 0⟩, ⟨65536, 0⟩, ⟨65536, 65536⟩, ⟨0, 65536⟩]
def half15 : List Pt := [⟨0, 0⟩, ⟨32768, 0⟩, ⟨32768, 65536⟩, ⟨0, 65536⟩]
theorem kn15_a : covL (fun a b => 0 + windP (place a) (place b) one15) 0 0 0 = 16 := by decide +kernel
theorem kn15_b : covL (fun a b => 0 + windP (place a) (place b) half15) 1 0 0 = 8 := by decide +kernel
theorem kn15_c : covL (fun a b => 0 + windP (place a) (place b) one15) 0 1 0 = 0 := by decide +kernel
theorem kn15_d : covL (fun a b => 0 + windP (place a) (place b) one15) 7 0 0 = 0 := by decide +kernel
theorem kn15_e : (0 : Int) + windP (place 5) (place 5) one15 = 1 := by decide +kernel

theorem known15 (w : World) : Calls Try.prog 11 #[] w fun e w' => e = .returned (.bool true) ∧ Below w.heap.size w w' := by
  obtain ⟨B, hB⟩ : ∃ B, w.heap.size = B := ⟨_, rfl⟩
  obtain ⟨W1, hW1⟩ : ∃ W, (w.alloc (.cells #[.int .i64 0, .int .i64 0, .int .i64 65536, .int .i64 0, .int .i64 65536, .int .i64 65536, .int .i64 0, .int .i64 65536] 28)).alloc (.cells #[.bool false, .slice (some ⟨B, 0, none⟩) 4 4] 31) = W := ⟨_, rfl⟩
  obtain ⟨ha, hr, hb0⟩ := has_old hW1
  rw [hB] at ha hr
  have s1 : W1.heap.size = B + 2 := by rw [← hW1]; simp [hB]
  have hp : Psl W1 (.slice (some ⟨B, 0, none⟩) 4 4) one15 := psl_lit 4 4 rfl (by decide) ha rfl
  have hy := ysl_one hp hr
  obtain ⟨W2, hW2⟩ : ∃ W, (W1.alloc (.cells #[.int .i64 0, .int .i64 0, .int .i64 32768, .int .i64 0, .int .i64 32768, .int .i64 65536, .int .i64 0, .int .i64 65536] 28)).alloc (.cells #[.bool false, .slice (some ⟨B + 2, 0, none⟩) 4 4] 31) = W := ⟨_, rfl⟩
  obtain ⟨hc, hd, hb1⟩ := has_old hW2
  rw [s1] at hc hd
  have hq : Psl W2 (.slice (some ⟨B + 2, 0, none⟩) 4 4) half15 := psl_lit 4 4 rfl (by decide) hc rfl
  have hz := ysl_one hq hd
  have hy2 := hy.below hb1
  have B0 := Lib.hid (hb0.trans (hb1.mono hb0.size))
  have D0 : Hid (Below W2.heap.size W2 W2) := Lib.hid (Below.refl _ _)
  have EA := Lib.hid (fun (rule x y : Int) (w1 : World) (hb : Below W2.heap.size W2 w1) => c_at rule x y (hy2.below hb) (few_one (by decide)))
  have EH := Lib.hid (fun (rule x y : Int) (w1 : World) (hb : Below W2.heap.size W2 w1) => c_at rule x y (hz.below hb) (few_one (by decide)))
  have EW := Lib.hid (fun (x y : Int) (w1 : World) (hb : Below W2.heap.size W2 w1) => c_wind x y (hy2.below hb) (few_one (by decide)))
  have HW1 := Lib.hid hW1
  have HW2 := Lib.hid hW2
  have S1 := Lib.hid s1
  clear ha hr hb0 hp hy hc hd hb1 hq hz hy2 hW1 hW2 s1
  go_enter Try.func11, Try.ntmps11
  go_upto_region 2 with fail
  rw [HW1.out]
  clear hB
  have s1 := S1.out
  go_upto_region 3 with fail
  rw [HW2.out]
  clear s1
  have E1 := Lib.hid (EA.out 0 0 0 _ D0.out)
  rw [show covY 0 0 0 [(⟨false, .slice (some ⟨B, 0, none⟩) 4 4, one15⟩ : Po)] = 16 from kn15_a] at E1
  go_wp2_with fail
  refine E1.out.mono ?_
  rintro r X1 ⟨rfl, h1⟩
  have D1 := Lib.hid (D0.out.trans (h1.mono D0.out.size))
  clear h1 E1
  have E1 := Lib.hid (EH.out 1 0 0 _ D1.out)
  rw [show covY 1 0 0 [(⟨false, .slice (some ⟨B + 2, 0, none⟩) 4 4, half15⟩ : Po)] = 8 from kn15_b] at E1
  go_wp2_with fail
  refine E1.out.mono ?_
  rintro r X2 ⟨rfl, h1⟩
  have D2 := Lib.hid (D1.out.trans (h1.mono D1.out.size))
  clear h1 E1
  have E1 := Lib.hid (EA.out 0 1 0 _ D2.out)
  rw [show covY 0 1 0 [(⟨false, .slice (some ⟨B, 0, none⟩) 4 4, one15⟩ : Po)] = 0 from kn15_c] at E1
  go_wp2_with fail
  refine E1.out.mono ?_
  rintro r X3 ⟨rfl, h1⟩
  have D3 := Lib.hid (D2.out.trans (h1.mono D2.out.size))
  clear h1 E1
  have E1 := Lib.hid (EA.out 7 0 0 _ D3.out)
  rw [show covY 7 0 0 [(⟨false, .slice (some ⟨B, 0, none⟩) 4 4, one15⟩ : Po)] = 0 from kn15_d] at E1
  go_wp2_with fail
  refine E1.out.mono ?_
  rintro r X4 ⟨rfl, h1⟩
  have D4 := Lib.hid (D3.out.trans (h1.mono D3.out.size))
  clear h1 E1
  have E1 := Lib.hid (EW.out 5 5 _ D4.out)
  rw [show windY 5 5 [(⟨false, .slice (some ⟨B, 0, none⟩) 4 4, one15⟩ : Po)] = 1 from kn15_e] at E1
  go_wp2_with fail
  refine E1.out.mono ?_
  rintro r X5 ⟨rfl, h1⟩
  have D5 := Lib.hid (D4.out.trans (h1.mono D4.out.size))
  clear h1 E1
  go_wp2
  go_ret
  exact ⟨rfl, B0.out.trans (D5.out.mono B0.out.size)⟩

end Go.Proofs.Ytopepgifhnfbiaa

namespace Go.Proofs.Ytopepgifhnfbiaa
open Go Go.RowKit
open M

/-- Numbers of the call's own. -/
def Iown (w : World) (base : Nat) (v : Value) (xs : List Int) : Prop := w.ownsRow base 3 1 v xs.length (xs.map (Value.int .i64))
theorem Iown.nums {w : World} {B : Nat} {v : Value} {xs : List Int} (h : Iown w B v xs) (hf : xs.length ≤ 1000) : Nums w v := by
  rcases h.2 with ⟨rfl, hn⟩ | ⟨g, cap, cur, rfl, _, hg, _, _, _, ht⟩
  · exact Or.inl ⟨_, _, rfl⟩
  · by_cases h0 : xs.length = 0
    · rw [h0]; exact Or.inl ⟨_, _, rfl⟩
    · refine Or.inr ⟨g, 0, _, cap, rfl, by omega, by omega, fun i hi => ?_⟩
      have hu : (xs.map (Value.int .i64))[i]? = some (.int .i64 (xs.getD i 0)) := by simp [List.getD, hi]
      refine ⟨xs.getD i 0, ?_⟩
      rw [Nat.zero_add, cell_of_row w g i cur _ _ hg]
      rw [← ht, List.getElem?_take] at hu
      split at hu
      · simpa using hu
      · cases hu
theorem Try.infoInt : (Try.prog.info? 3).map (fun i => (i.zero, i.size, i.bytes)) = some (some (.int .i64 0), 1, 8) := by kernel_rfl

theorem Nums.on {w w' : World} {v : Value} (h : Nums w v) (hb : Below w.heap.size w w') : Nums w' v := by
  rcases h with h | ⟨b, o, n, cap, hv, h0, h1, hc⟩
  · exact Or.inl h
  · refine Or.inr ⟨b, o, n, cap, hv, h0, h1, fun i hi => ?_⟩
    obtain ⟨x, hx⟩ := hc i hi
    exact ⟨x, (hb.cell (p := ⟨b, _, _⟩) (World.block_lt_of_cell? w _ hx)).trans hx⟩
theorem new_one {w : World} {x : Value} {t : TypeId} {g : Nat} (hg : w.heap.size = g) : ∀ j u, [x][j]? = some u → (w.alloc (.cells #[x] t)).cell? ((⟨g, 0, none⟩ : Addr).add j) = some u := by
  intro j u hu
  rw [Addr.add_lit, Nat.zero_add]
  exact (has_new hg).cell j u (by simpa using hu)
theorem Iown.alloc {w : World} {B : Nat} {v : Value} {xs : List Int} (h : Iown w B v xs) (o : Obj) : Iown (w.alloc o) B v xs := World.ownsRow.alloc h o
theorem Iown.base {w : World} {B : Nat} {v : Value} {xs : List Int} (h : Iown w B v xs) (k : Nat) (hk : v.ownBlock = some k) : B ≤ k ∧ k < w.heap.size := World.ownsRow.lt h k hk
theorem ones_one (x : Int) : ∀ u ∈ [Value.int .i64 x], u.oneCell' = true := by
  intro u hu
  simp at hu
  subst hu
  rfl

end Go.Proofs.Ytopepgifhnfbiaa

namespace Go.Proofs.Ytopepgifhnfbiaa
open Go Go.RowKit
open M

def Tapess (w : World) (e : Ending) (w' : World) : Prop := ∃ (g : Nat) (v : Value), e = .returned (.pointer (some ⟨g, 0, none⟩)) ∧ Tp w' g v ∧ w.heap.size ≤ g ∧ Below w.heap.size w w'

set_option maxRecDepth 100000 in
set_option maxHeartbeats 2000000 in
theorem l14_tapes (k : Nat) (hk : k ≤ 60) (w : World) : Calls Try.prog 9 #[.int .i64 (k : Int)] w (Tapess w) := by
  obtain ⟨j0, hj, hy0, hy1, hy2⟩ := info_parts Try.infoInt
  obtain ⟨B, hB⟩ : ∃ B, w.heap.size = B := ⟨_, rfl⟩
  have HB := Lib.hid hB
  clear hB
  have ok : (k : Int) ≤ 60 := by omega
  go_enter Try.func9, Try.ntmps9
  go_wp2_with fail
  go_loopw [3, 4] (fun t i wr => ∃ (q : Nat) (xs : List Int), q ≤ 90 ∧ i = .int .i64 q ∧ xs.length = q ∧ Iown wr B t xs ∧ Below B w wr ∧ B ≤ wr.heap.size) (fun _ i _ => 90 - (intOf i).toNat)
  case atStart => exact ⟨0, [], by omega, rfl, rfl, World.ownsRow_nil _ _ _ _, Below.refl _ _, by have := HB.out; omega⟩
  case round =>
    obtain ⟨q, xs, hq, rfl, hl, ho, hb, hs⟩ := hrel
    by_cases hlt : q < 90
    · have o2 : (q : Int) < 90 := by omega
      have HO := Lib.hid ho
      have HL := Lib.hid hl
      have B5 := Lib.hid hb
      have s5 := Lib.hid hs
      clear ho hl hb hs
      go_wp2_with (at_builtin; refine wpList_append_near _ rfl _ _ 33 rfl B 3 j0 (.int .i64 0) 1 8 Try.underlying33 hj hy0 hy1 hy2 rfl (by decide) _ xs.length (xs.map (Value.int .i64)) rfl (HO.out.alloc _) ⟨wr.heap.size, 0, none⟩ 1 1 [.int .i64 _] rfl rfl (new_one rfl) (ones_one _) ?c3 ?c4 ?c5 ?_)
      case c3 => have := HL.out; unfold maxLen; omega
      case c4 => have := HL.out; omega
      case c5 => have := s5.out; simp; omega
      intro t' w6 hown' hg' hnear
      have R : Hid (∃ ys : List Int, ys.length = q + 1 ∧ Iown w6 B t' ys) := Lib.hid ⟨xs ++ [_], by simp [HL.out], by unfold Iown; simpa using hown'⟩
      have B6 : Hid (Below B w w6 ∧ B ≤ w6.heap.size) := Lib.hid ⟨(B5.out.alloc s5.out _).grown hg' (by have := s5.out; simp; omega) (fun k hk => (HO.out.base k hk).1), by have := hg'.size; have := s5.out; simp at *; omega⟩
      clear hown' hg' hnear HO B5 s5
      go_wp2
      go_roundw
      case rel => obtain ⟨ys, y1, y2⟩ := R.out; exact ⟨q + 1, ys, by omega, by go_num, y1, y2, B6.out.1, B6.out.2⟩
      case measure => simp [intOf]; omega
    · have oq : ¬ (q : Int) < 90 := by omega
      have NU := ho.nums (by omega)
      obtain ⟨at_, nt, ct, ev⟩ := NU.shape
      subst ev
      have RR : Tapess w (.returned (.pointer (some ⟨wr.heap.size, 0, none⟩))) (wr.alloc (.cells #[.slice at_ nt ct, .int .i64 0] 35)) := by
        refine ⟨wr.heap.size, _, rfl, tp_start NU (has_new rfl) ((Below.refl _ _).alloc (Nat.le_refl _) _) (Nat.le_refl _), by have := HB.out; omega, ?_⟩
        rw [HB.out]
        exact hb.alloc hs _
      have RRH := Lib.hid RR
      clear RR NU ho hl hb hs
      go_wp2
      go_ret
      exact RRH.out

end Go.Proofs.Ytopepgifhnfbiaa

namespace Go.Proofs.Ytopepgifhnfbiaa
open Go Go.RowKit
open M

theorem lit15 {wr X : World} {a b c d e f : Int} (h : (wr.alloc (.cells #[.int .i64 a, .int .i64 b, .int .i64 c, .int .i64 d, .int .i64 e, .int .i64 f] 28)).alloc (.cells #[.bool false, .slice (some ⟨wr.heap.size, 0, none⟩) 3 3] 31) = X) (hi : ∀ z ∈ [a, b, c, d, e, f], I64 z) : ∃ ys, Ysl X (.slice (some ⟨wr.heap.size + 1, 0, none⟩) 1 1) ys ∧ Below wr.heap.size wr X ∧ Cv ys := by
  obtain ⟨ha, hr, hb⟩ := has_old h
  refine ⟨_, ysl_one (psl_lit (ps := [⟨a, b⟩, ⟨c, d⟩, ⟨e, f⟩]) 3 3 rfl (by decide) ha rfl) hr, hb, cv_few (fun i hj => ?_) (by simp)⟩
  have h0 : i = 0 := by simp at hj; omega
  subst h0
  refine ⟨fun p hp => ?_, by simp [po]⟩
  have hp' : p = ⟨a, b⟩ ∨ p = ⟨c, d⟩ ∨ p = ⟨e, f⟩ := by simpa [po] using hp
  rcases hp' with rfl | rfl | rfl
  · exact ⟨hi a (by simp), hi b (by simp)⟩
  · exact ⟨hi c (by simp), hi d (by simp)⟩
  · exact ⟨hi e (by simp), hi f (by simp)⟩

set_option maxRecDepth 100000 in
set_option maxHeartbeats 8000000 in
theorem coverNumbers_walk (w : World) : Calls Try.prog 3 #[] w fun e w' => e = .returned (.bool true) ∧ Below w.heap.size w w' := by
  go_enter Try.func3, Try.ntmps3
  go_wp2_with fail
  go_loopw [1] (fun t wr => ∃ k : Nat, k ≤ 50 ∧ t = .int .i64 k ∧ Below w.heap.size w wr) (fun t _ => 50 - (intOf t).toNat)
  case atStart => exact ⟨0, by omega, rfl, Below.refl _ _⟩
  case round =>
    obtain ⟨k, hk, rfl, hb⟩ := hrel
    have HB3 := Lib.hid hb
    clear hb
    by_cases hlt : k < 50
    · have o1 : (k : Int) < 50 := by omega
      go_wp2_with fail
      refine (l14_tapes k (by omega) _).mono ?_
      rintro e w2 ⟨g, v, rfl, tp, hg, hb⟩
      have B4 := Lib.hid (HB3.out.trans (hb.mono HB3.out.size))
      have PL := Lib.hid (l14_polys g v w2 tp)
      have GL : Hid (w.heap.size ≤ g) := Lib.hid (by have := HB3.out.size; omega)
      clear tp hg hb
      go_wp2_with fail
      refine PL.out.mono ?_
      intro e w3 hpl
      obtain ⟨vl, zs, rfl, hys, h285, hpi, hb1⟩ := polys_cv hpl B4.out GL.out
      have YS := Lib.hid hys
      have CVY := Lib.hid hpi
      have B5 := Lib.hid hb1
      obtain ⟨az, nz, cz, ez⟩ : ∃ ao n cap, vl = .slice ao n cap := by obtain ⟨ao, cap, e, _⟩ := hys; exact ⟨_, _, _, e⟩
      subst ez
      have SL := Lib.hid (fun (rule y x0 x1 : Int) w' (hb : Below w3.heap.size w3 w') => l15_same rule y x0 x1 (YS.out.below hb) CVY.out)
      clear hpl hys h285 hpi hb1
      go_wp2_with fail
      go_loopw [3] (fun t wk => ∃ y : Int, -3 ≤ y ∧ y ≤ 18 ∧ t = .int .i64 y ∧ Below w3.heap.size w3 wk) (fun t _ => 40 - (intOf t + 4).toNat)
      case atStart => exact ⟨-3, by omega, by omega, rfl, Below.refl _ _⟩
      case round =>
        obtain ⟨y, y0, y1, rfl, hb⟩ := hrel
        have HB := Lib.hid hb
        clear hb
        by_cases hly : y < 17
        · go_wp2_with fail
          refine (SL.out _ _ _ _ _ HB.out).mono ?_
          rintro r X1 ⟨rfl, hq⟩
          have D1 := Lib.hid (HB.out.trans (hq.mono HB.out.size))
          clear hq
          go_wp2
          go_roundw
          case rel => exact ⟨y + 2, by omega, by omega, by go_num, D1.out⟩
          case measure => simp [intOf]; omega
        · go_wp2
          go_roundw
          case rel => exact ⟨k + 1, by omega, by go_num, B5.out.trans (HB.out.mono B5.out.size)⟩
          case measure => simp [intOf]; omega
    · have o1 : ¬ (k : Int) < 50 := by omega
      go_wp2_with fail
      go_loopw [5] (fun t wk => ∃ a : Int, -1 ≤ a ∧ a ≤ 10 ∧ t = .int .i64 a ∧ Below w.heap.size w wk) (fun t _ => 40 - (intOf t + 4).toNat)
      case atStart => exact ⟨-1, by omega, by omega, rfl, HB3.out⟩
      case round =>
        clear HB3
        obtain ⟨a, a0, a1, rfl, hb⟩ := hrel
        have HB3 := Lib.hid hb
        clear hb
        by_cases hla : a < 10
        · go_wp2_with fail
          go_loopw [6] (fun t wk => ∃ b : Int, -1 ≤ b ∧ b ≤ 10 ∧ t = .int .i64 b ∧ Below w.heap.size w wk) (fun t _ => 40 - (intOf t + 4).toNat)
          case atStart => exact ⟨-1, by omega, by omega, rfl, HB3.out⟩
          case round =>
            clear HB3
            obtain ⟨b, b0, b1, rfl, hb⟩ := hrel
            have HB3 := Lib.hid hb
            clear hb
            by_cases hlb : b < 10
            · obtain ⟨V, hV⟩ : ∃ V, (wr.alloc (.cells #[.int .i64 (a * 8192), .int .i64 (b * 8192), .int .i64 65536, .int .i64 (a * 8192), .int .i64 (b * 8192), .int .i64 73728] 28)).alloc (.cells #[.bool false, .slice (some ⟨wr.heap.size, 0, none⟩) 3 3] 31) = V := ⟨_, rfl⟩
              obtain ⟨ys, hy, hbV, hcv⟩ := lit15 hV (by
                intro z hz
                simp only [List.mem_cons, List.not_mem_nil, or_false] at hz
                unfold I64
                omega)
              have CVY := Lib.hid hcv
              have YS := Lib.hid hy
              have BV := Lib.hid (HB3.out.trans (hbV.mono HB3.out.size))
              have HV := Lib.hid hV
              have SL := Lib.hid (fun (rule y x0 x1 : Int) w' (hb : Below V.heap.size V w') => l15_same rule y x0 x1 (YS.out.below hb) CVY.out)
              clear hV hy hbV hcv
              go_upto_region 18 with fail
              rw [HV.out]
              go_wp2_with fail
              refine (SL.out _ _ _ _ _ (Below.refl _ _)).mono ?_
              rintro r X1 ⟨rfl, hq⟩
              have D1 := Lib.hid hq
              clear hq
              go_wp2_with fail
              refine (SL.out _ _ _ _ _ D1.out).mono ?_
              rintro r X2 ⟨rfl, hq⟩
              have D2 := Lib.hid (D1.out.trans (hq.mono D1.out.size))
              clear hq
              go_wp2
              go_roundw
              case rel => exact ⟨b + 1, by omega, by omega, by go_num, BV.out.trans (D2.out.mono BV.out.size)⟩
              case measure => simp [intOf]; omega
            · go_wp2
              go_roundw
              case rel => exact ⟨a + 1, by omega, by omega, by go_num, HB3.out⟩
              case measure => simp [intOf]; omega
        · obtain ⟨V, hV⟩ : ∃ V, (wr.alloc (.cells #[.int .i64 (-9223372036854775808), .int .i64 (-9223372036854775808), .int .i64 9223372036854775807, .int .i64 (-536870912), .int .i64 536870912, .int .i64 9223372036854775807] 28)).alloc (.cells #[.bool false, .slice (some ⟨wr.heap.size, 0, none⟩) 3 3] 31) = V := ⟨_, rfl⟩
          obtain ⟨ys, hy, hbV, hcv⟩ := lit15 hV (by
                intro z hz
                simp only [List.mem_cons, List.not_mem_nil, or_false] at hz
                unfold I64
                omega)
          have CVY := Lib.hid hcv
          have YS := Lib.hid hy
          have BV := Lib.hid (HB3.out.trans (hbV.mono HB3.out.size))
          have HV := Lib.hid hV
          have SL := Lib.hid (fun (rule y x0 x1 : Int) w' (hb : Below V.heap.size V w') => l15_same rule y x0 x1 (YS.out.below hb) CVY.out)
          clear hV hy hbV hcv
          go_upto_region 21 with fail
          rw [HV.out]
          go_wp2_with fail
          refine (SL.out _ _ _ _ _ (Below.refl _ _)).mono ?_
          rintro r X1 ⟨rfl, hq⟩
          have D1 := Lib.hid hq
          clear hq
          go_wp2_with fail
          refine (SL.out _ _ _ _ _ D1.out).mono ?_
          rintro r X2 ⟨rfl, hq⟩
          have D2 := Lib.hid (D1.out.trans (hq.mono D1.out.size))
          clear hq
          go_wp2_with fail
          refine (SL.out _ _ _ _ _ D2.out).mono ?_
          rintro r X3 ⟨rfl, hq⟩
          have D3 := Lib.hid (D2.out.trans (hq.mono D2.out.size))
          clear hq
          go_wp2_with fail
          refine (known15 _).mono ?_
          rintro r X4 ⟨rfl, hq⟩
          have D4 := Lib.hid (D3.out.trans (hq.mono D3.out.size))
          clear hq
          go_wp2
          go_ret
          exact ⟨rfl, BV.out.trans (D4.out.mono BV.out.size)⟩

end Go.Proofs.Ytopepgifhnfbiaa

namespace Go.Proofs.Ytopepgifhnfbiaa.coverNumbers
open Go.ChangeShapes Go.WideShapes Go.ChangeAt Go.RowKit

theorem post_below {H : Type} {enc : TypeId × Value → H} {P : Program} {f : Func} {s : ChangeSpec} {apart fresh handsOn : Bool} {W V : World} {args : Array Value} {v : Value} {ds gs : List (DataW H)} {before pa pv : List MemPlace}
    (hW : DataW.Whole enc P f.params.toList s.vars apart W args.toList ds gs before)
    (hres : ∀ (b : Nat) (sp : Nat → Bool) (hd : Bool), DataW.TrodAll enc P V b sp hd f.resultTypes.toList (v.resultList f.resultTypes.size) (s.fn H (ds ++ gs)).results [])
    (hargs : ∀ sp : Nat → Bool, (∀ p ∈ before, sp p.block = true) → DataW.TrodAll enc P V 0 sp true f.params.toList args.toList (s.fn H (ds ++ gs)).args pa)
    (hvars : ∀ sp : Nat → Bool, (∀ p ∈ before, sp p.block = true) → DataW.TrodVars enc P V sp s.vars (s.fn H (ds ++ gs)).vars pv)
    (hps : before = pa ++ pv) (hb : Below W.heap.size W V) : s.post enc P f apart fresh handsOn false W args v V := by
  have hl : ∀ p ∈ before, (fun b => decide (b < W.heap.size)) p.block = true := fun p hp => by simpa using hW.lt p hp
  refine ⟨ds, gs, before, [], pa, pv, hW, hres _ _ _, hargs _ hl, hvars _ hl, World.keptBut_mono (fun p hp => ⟨hp, ?_⟩) (hb.frame (· ∈ before)), fun h => by cases h⟩
  rw [hps, List.mem_append] at hp
  exact Or.inr hp

theorem own : ownKnob Try.prog.godebug = none := by kernel_rfl

set_option maxRecDepth 100000 in
theorem lifted (os : Os) (started : os.Started) (H : Type) (enc : TypeId × Value → H) :
    ReturnsInHanded {} Try.checked os 3 .any (Rows.coverNumbersSpec.pre6 enc Try.prog Try.f3 Rows.coverNumbersRow.domain false) (Rows.coverNumbersSpec.post enc Try.prog Try.f3 false true false false) := by
  refine returnsInHanded_of_change (C := Try.checked) own started (by kernel_rfl) Try.func3
    (ChangeSpec.witness6 (enc := enc) (C := Try.checked) false ⟨#[], #[], []⟩ 8 (by kernel_rfl) (by kernel_rfl) (by kernel_rfl) (by kernel_rfl)) ?_
  intro W base args ds gs before hval0 hW hcnd _
  have hval : ∀ (j : Nat) t v, Try.f3.params[j]? = some t → args[j]? = some v → Value.okWide Try.prog W .any base t v := hval0
  have hW' := hW
  obtain ⟨p, q, hA0, hV, rfl, hfz, hnd⟩ := hW
  have hA : DataW.TrodAll enc Try.prog W 0 (fun _ => true) true Try.f3.params.toList args.toList ds p := hA0
  rw [Try.params3] at hA hval
  obtain ⟨rfl, rfl, rfl⟩ := trodAll_none hA
  obtain ⟨rfl, rfl⟩ := trodVars_none hV
  clear hA0 hval0
  simp only [List.append_nil] at hW'
  refine (coverNumbers_walk W).mono fun e W' ⟨he, hg⟩ => ?_
  subst he
  exact ⟨_, rfl, post_below (pa := []) (pv := []) hW' (fun _ _ _ => (trodAll_cons_mk (shut_bool Try.underlying4 _) trodAll_mk0)) (fun sp _ => rfl) (fun _ _ => rfl) rfl hg⟩

theorem over : Rows.coverNumbersRow.holds Try.pinned (OpenSpec.ofChange Rows.coverNumbersSpec) :=
  OpenClaim.holds_of_wide 3 Try.f3 rfl rfl rfl rfl rfl rfl rfl ⟨rfl, rfl, rfl, rfl, rfl⟩ rfl rfl rfl rfl rfl (by kernel_rfl) Try.func3 (by kernel_rfl)
    (of_decide_eq_true (by kernel_rfl)) (by unfold Func.isWrapper; first | (rw [if_pos (by decide +kernel)]; kernel_rfl) | (rw [if_neg (by decide +kernel)]; exact ⟨rfl, rfl⟩))
    (fun os started H enc _ => lifted os started H enc)

end Go.Proofs.Ytopepgifhnfbiaa.coverNumbers
namespace Go.Proofs.Ytopepgifhnfbiaa
theorem coverNumbers_holds : Rows.CoverNumbersSaid := coverNumbers.over
#print axioms coverNumbers_holds
end Go.Proofs.Ytopepgifhnfbiaa
