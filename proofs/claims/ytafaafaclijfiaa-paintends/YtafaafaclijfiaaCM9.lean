/- The plain arithmetic of a line's corners: the part of a line from one of its corners on to its end has the line's own corners, and is as long as the rest; lengths of short lines are plain sums. No condition but those that the theorems name; no program is named here. -/
import Derived.Test.YtafaafaclijfiaaNMath
namespace Go.Proofs.Ytafaafaclijfiaa
namespace M

/-- Lengths of at most 700 sides are plain sums. -/
theorem lenN_plain (ps : List Pt) : ∀ n, n ≤ 700 → lenN ps n ≤ n * 1518500249 ∧ lenN ps (n + 1) = lenN ps n + sideL ps n
  | 0, _ => by
    have h0 := sideL_lo ps 0
    have h1 := sideL_hi ps 0
    refine ⟨by simp [lenN], ?_⟩
    rw [← lenN_step, add_near (by simp [lenN]) (by simp [lenN]) h0 h1, hold_in (by simp [lenN]; omega) (by simp [lenN]; omega)]
  | n + 1, h => by
    have ih := lenN_plain ps n (by omega)
    have i0 := lenN_in ps n
    have i1 := lenN_in ps (n + 1)
    have a0 := sideL_lo ps n
    have a1 := sideL_hi ps n
    have h0 := sideL_lo ps (n + 1)
    have h1 := sideL_hi ps (n + 1)
    have hb : lenN ps (n + 1) ≤ (n + 1 : Nat) * 1518500249 := by rw [ih.2]; have := ih.1; omega
    refine ⟨hb, ?_⟩
    rw [← lenN_step ps (n + 1), add_near i1.1 i1.2 h0 h1, hold_in (by omega) (by omega)]
theorem lenN_succ {ps : List Pt} {n : Nat} (h : n ≤ 700) : lenN ps (n + 1) = lenN ps n + sideL ps n := (lenN_plain ps n h).2
theorem lenN_mono {ps : List Pt} {i : Nat} : ∀ {j : Nat}, i ≤ j → j ≤ 700 → lenN ps i ≤ lenN ps j
  | 0, h, _ => by
    obtain rfl : i = 0 := by omega
    exact Int.le_refl _
  | j + 1, h, hj => by
    by_cases e : i = j + 1
    · rw [e]; omega
    · have := lenN_mono (ps := ps) (i := i) (j := j) (by omega) (by omega)
      have := sideL_lo ps j
      rw [lenN_succ (ps := ps) (n := j) (by omega)]
      omega
theorem lenN_join {ps qs : List Pt} {k : Nat} : ∀ {j : Nat}, k + j ≤ 700 → (∀ i, i < j → sideL ps (k + i) = sideL qs i) → lenN ps (k + j) = lenN ps k + lenN qs j
  | 0, _, _ => by simp [lenN]
  | j + 1, hj, h => by
    have ih := lenN_join (ps := ps) (qs := qs) (k := k) (j := j) (by omega) (fun i hi => h i (by omega))
    rw [← Nat.add_assoc, lenN_succ (ps := ps) (n := k + j) (by omega), lenN_succ (ps := qs) (n := j) (by omega), ih, h j (by omega)]
    omega
theorem lenN_same {ps qs : List Pt} {j : Nat} (hj : j ≤ 700) (h : ∀ i, i < j → sideL ps i = sideL qs i) : lenN ps j = lenN qs j := by
  have := lenN_join (ps := ps) (qs := qs) (k := 0) (j := j) (by omega) (fun i hi => by rw [Nat.zero_add]; exact h i hi)
  rw [Nat.zero_add, lenN_zero] at this
  omega
theorem isq_zero : isq 0 = 0 := by
  have := (isq_spec 0).1
  cases h : isq 0 with
  | zero => rfl
  | succ n => rw [h] at this; simp at this
theorem longP_self (a : Pt) : longP a a = 0 := by
  unfold longP hyp
  rw [Int.sub_self, Int.sub_self]
  have e : wide 0 = 0 := by decide
  rw [e]
  simp [isq_zero]
theorem longP_zero {a b : Pt} (h : longP (plc a) (plc b) = 0) : plc a = plc b := by
  obtain ⟨x, y⟩ := a
  obtain ⟨x2, y2⟩ := b
  unfold longP hyp at h
  simp only [plc] at h ⊢
  have l1 := place_lo x; have l2 := place_hi x; have l3 := place_lo y; have l4 := place_hi y
  have m1 := place_lo x2; have m2 := place_hi x2; have m3 := place_lo y2; have m4 := place_hi y2
  rw [wide_in (a := place x2 - place x) (by omega) (by omega), wide_in (a := place y2 - place y) (by omega) (by omega)] at h
  obtain ⟨d, hd⟩ : ∃ d, place x2 - place x = d := ⟨_, rfl⟩
  obtain ⟨e, he⟩ : ∃ e, place y2 - place y = e := ⟨_, rfl⟩
  rw [hd, he] at h
  have s1 : 0 ≤ d * d := by rcases Int.le_total 0 d with g | g; exact Int.mul_nonneg g g; exact Int.mul_nonneg_of_nonpos_of_nonpos g g
  have s2 : 0 ≤ e * e := by rcases Int.le_total 0 e with g | g; exact Int.mul_nonneg g g; exact Int.mul_nonneg_of_nonpos_of_nonpos g g
  have hz : isq (d * d + e * e).toNat = 0 := by omega
  have hs := (isq_spec (d * d + e * e).toNat).2
  rw [hz] at hs
  have z : d * d + e * e = 0 := by omega
  have zd : d * d = 0 := by omega
  have ze : e * e = 0 := by omega
  have d0 : d = 0 := by rcases Int.mul_eq_zero.1 zd with h | h <;> exact h
  have e0 : e = 0 := by rcases Int.mul_eq_zero.1 ze with h | h <;> exact h
  simp only [Pt.mk.injEq]
  omega
theorem side_zero {ps : List Pt} {i : Nat} : sideL ps i = 0 ↔ sa ps i = sb ps i := by
  refine ⟨fun h => longP_zero h, fun h => ?_⟩
  unfold sideL
  rw [h, longP_self]
/-- The corners of the sides k, k + 1, .. k + m - 1. -/
def corN (ps : List Pt) (k : Nat) : Nat → List Pt
  | 0 => []
  | m + 1 => if sa ps (k + m) = sb ps (k + m) then corN ps k m else (if (corN ps k m).length = 0 then [sa ps (k + m)] else corN ps k m) ++ [sb ps (k + m)]
theorem corN_zero (ps : List Pt) (k : Nat) : corN ps k 0 = [] := rfl
theorem corN_off {ps : List Pt} {k m : Nat} (h : sa ps (k + m) = sb ps (k + m)) : corN ps k (m + 1) = corN ps k m := by rw [corN, if_pos h]
theorem corN_first {ps : List Pt} {k m : Nat} (h : ¬ sa ps (k + m) = sb ps (k + m)) (h0 : (corN ps k m).length = 0) : corN ps k (m + 1) = [sa ps (k + m)] ++ [sb ps (k + m)] := by rw [corN, if_neg h, if_pos h0]
theorem corN_more {ps : List Pt} {k m : Nat} (h : ¬ sa ps (k + m) = sb ps (k + m)) (h0 : ¬ (corN ps k m).length = 0) : corN ps k (m + 1) = corN ps k m ++ [sb ps (k + m)] := by rw [corN, if_neg h, if_neg h0]
theorem corN_length (ps : List Pt) (k : Nat) : ∀ m, (corN ps k m).length ≤ m + 1
  | 0 => by simp [corN]
  | m + 1 => by
    have ih := corN_length ps k m
    by_cases h : sa ps (k + m) = sb ps (k + m)
    · rw [corN_off h]; omega
    · by_cases h0 : (corN ps k m).length = 0
      · rw [corN_first h h0]; simp
      · rw [corN_more h h0]; simp; omega
/-- No corner yet: nothing of the way is done. -/
theorem corN_none {ps : List Pt} {k : Nat} : ∀ {m : Nat}, k + m ≤ 700 → (corN ps k m).length = 0 → lenN ps (k + m) = lenN ps k
  | 0, _, _ => rfl
  | m + 1, hm, h => by
    by_cases e : sa ps (k + m) = sb ps (k + m)
    · rw [corN_off e] at h
      rw [← Nat.add_assoc, lenN_succ (by omega), side_zero.2 e, corN_none (by omega) h]
      omega
    · by_cases h0 : (corN ps k m).length = 0
      · rw [corN_first e h0] at h; simp at h
      · rw [corN_more e h0] at h; simp at h
theorem hold_len (ps : List Pt) (n : Nat) : hold (lenN ps n) = lenN ps n := hold_in (by have := (lenN_in ps n).1; omega) (lenN_in ps n).2
/-- The part from corner k on to the end of side k + M. -/
theorem cut_none {ps : List Pt} {k : Nat} {t : Int} (hk : k ≤ 700) : ∀ {i : Nat}, i ≤ k → cutN ps (lenN ps k) t i = []
  | 0, _ => rfl
  | i + 1, hi => by
    rw [cutN_off]
    · exact cut_none hk (by omega)
    · rintro ⟨_, h, _⟩
      have := lenN_mono (ps := ps) hi hk
      rw [lenN_succ (ps := ps) (n := i) (by omega)] at this
      omega
theorem cut_cor {ps : List Pt} {k M : Nat} (hM : k + M ≤ 700) : ∀ {m : Nat}, m ≤ M → cutN ps (lenN ps k) (lenN ps (k + M)) (k + m) = corN ps k m
  | 0, _ => cut_none (by omega) (Nat.le_refl _)
  | m + 1, hm => by
    have ih := cut_cor (ps := ps) hM (m := m) (by omega)
    have e1 := lenN_succ (ps := ps) (n := k + m) (by omega)
    have m1 := lenN_mono (ps := ps) (i := k) (j := k + m) (by omega) (by omega)
    have m2 := lenN_mono (ps := ps) (i := k + m + 1) (j := k + M) (by omega) (by omega)
    have s0 := sideL_lo ps (k + m)
    have i1 := lenN_in ps (k + M)
    have i2 := lenN_in ps (k + m)
    rw [← Nat.add_assoc]
    by_cases e : sa ps (k + m) = sb ps (k + m)
    · rw [corN_off e, cutN_off, ih]
      rintro ⟨h, _⟩
      rw [side_zero.2 e] at h
      omega
    · have hz : ¬ sideL ps (k + m) = 0 := fun h => e (side_zero.1 h)
      have hh : hit ps (lenN ps k) (lenN ps (k + M)) (k + m) := ⟨by omega, by omega, by omega⟩
      have ft : fromP ps (lenN ps (k + M)) (k + m) = sb ps (k + m) := by
        unfold fromP
        rw [onP_b (by rw [hold_in (by omega) (by omega)]; omega) (by rw [hold_in (by omega) (by omega)]; omega)]
        exact plc_plc _
      by_cases h0 : (corN ps k m).length = 0
      · rw [corN_first e h0, cutN_first hh (by rw [ih]; exact h0), ft]
        have q := corN_none (by omega) h0
        have ff : fromP ps (lenN ps k) (k + m) = sa ps (k + m) := by
          unfold fromP
          rw [q, onP_a (by rw [Int.sub_self]; decide)]
          exact plc_plc _
        rw [ff]
      · rw [corN_more e h0, cutN_more hh (by rw [ih]; exact h0), ft, ih]
/-- Each side begins where the one ahead of it ended. -/
def Chain (ps : List Pt) (k M : Nat) : Prop := ∀ i, i + 1 < M → sa ps (k + i + 1) = sb ps (k + i)
theorem chain_in {ps : List Pt} {k M : Nat} (h : k + M ≤ ps.length) : Chain ps k M := fun i hi => by
  unfold sa sb
  rw [nxt_in (by omega)]
theorem sb_snoc {C : List Pt} {q : Pt} {i : Nat} (hi : i + 1 < C.length) : sideL (C ++ [q]) i = sideL C i := by
  unfold sideL sa sb
  rw [List.length_append, nxt_in (n := C.length + [q].length) (i := i) (by simp; omega), nxt_in (n := C.length) (i := i) (by omega), pt_left (by omega), pt_left (by omega)]
theorem sb_last {C : List Pt} {q : Pt} {L : Nat} (hL : C.length = L + 1) : sideL (C ++ [q]) L = longP (plc (pt C L)) (plc q) := by
  unfold sideL sa sb
  rw [List.length_append, nxt_in (n := C.length + [q].length) (i := L) (by simp; omega), pt_left (by omega), ← hL, pt_last]
/-- What the corners are: where they begin and end, and how long the way over them is. -/
theorem cor_inv {ps : List Pt} {k M : Nat} (hM : k + M ≤ 700) (hc : Chain ps k M) : ∀ {m : Nat}, m ≤ M →
    ((corN ps k m).length = 0 ∧ (0 < m → sb ps (k + m - 1) = sa ps k)) ∨
    ∃ L, (corN ps k m).length = L + 2 ∧ 0 < m ∧ pt (corN ps k m) 0 = sa ps k ∧ pt (corN ps k m) (L + 1) = sb ps (k + m - 1) ∧ lenN (corN ps k m) (L + 1) = lenN ps (k + m) - lenN ps k
  | 0, _ => Or.inl ⟨rfl, fun h => by omega⟩
  | m + 1, hm => by
    have ih := cor_inv hM hc (m := m) (by omega)
    have e1 := lenN_succ (ps := ps) (n := k + m) (by omega)
    have em : k + (m + 1) - 1 = k + m := by omega
    have link : 0 < m → sa ps (k + m) = sb ps (k + m - 1) := fun h => by
      have := hc (m - 1) (by omega)
      rw [show k + (m - 1) + 1 = k + m by omega, show k + (m - 1) = k + m - 1 by omega] at this
      exact this
    rw [em, ← Nat.add_assoc]
    by_cases e : sa ps (k + m) = sb ps (k + m)
    · rw [corN_off e]
      rcases ih with ⟨h0, h1⟩ | ⟨L, h0, h1, h2, h3, h4⟩
      · refine Or.inl ⟨h0, fun _ => ?_⟩
        by_cases hm0 : m = 0
        · subst hm0; exact e.symm
        · rw [← e, link (by omega), h1 (by omega)]
      · refine Or.inr ⟨L, h0, by omega, h2, ?_, ?_⟩
        · rw [h3, ← e, link h1]
        · rw [h4, e1, side_zero.2 e]; omega
    · rcases ih with ⟨h0, h1⟩ | ⟨L, h0, h1, h2, h3, h4⟩
      · have q := corN_none (by omega) h0
        have es : sa ps (k + m) = sa ps k := by
          by_cases hm0 : m = 0
          · subst hm0; rfl
          · rw [link (by omega), h1 (by omega)]
        rw [corN_first e h0]
        refine Or.inr ⟨0, rfl, by omega, ?_, rfl, ?_⟩
        · exact es
        · rw [lenN_succ (by omega), lenN_zero, e1, q]
          have : sideL ([sa ps (k + m)] ++ [sb ps (k + m)]) 0 = sideL ps (k + m) := by
            rw [sb_last (L := 0) rfl]
            show longP (plc (sa ps (k + m))) (plc (sb ps (k + m))) = _
            unfold sideL
            rw [show plc (sa ps (k + m)) = sa ps (k + m) from plc_plc _, show plc (sb ps (k + m)) = sb ps (k + m) from plc_plc _]
          rw [this]
          omega
      · rw [corN_more e (by omega)]
        refine Or.inr ⟨L + 1, by simp [h0], by omega, ?_, ?_, ?_⟩
        · rw [pt_left (by omega)]; exact h2
        · have := pt_last (corN ps k m) (sb ps (k + m))
          rw [h0] at this
          exact this
        · have b := corN_length ps k m
          rw [lenN_succ (by omega), sb_last (L := L + 1) h0, h3, ← link h1, e1]
          have s1 : lenN (corN ps k m ++ [sb ps (k + m)]) (L + 1) = lenN (corN ps k m) (L + 1) := lenN_same (by omega) fun i hi => sb_snoc (by omega)
          rw [s1, h4]
          have : longP (plc (sa ps (k + m))) (plc (sb ps (k + m))) = sideL ps (k + m) := by
            unfold sideL
            rw [show plc (sa ps (k + m)) = sa ps (k + m) from plc_plc _, show plc (sb ps (k + m)) = sb ps (k + m) from plc_plc _]
          rw [this]
          omega
/-- How long the corners are as an open line. -/
theorem cor_long {ps : List Pt} {k M : Nat} (hM : k + M ≤ 700) (hc : Chain ps k M) : lengthL false (corN ps k M) = lenN ps (k + M) - lenN ps k := by
  rcases cor_inv hM hc (Nat.le_refl M) with ⟨h0, _⟩ | ⟨L, h0, _, _, _, h4⟩
  · rw [corN_none hM h0]
    unfold lengthL
    rw [h0, sidesN_few _ (by omega), lenN_zero]
    omega
  · unfold lengthL
    rw [h0, sidesN_open (by omega)]
    exact h4
/-- The whole part: of n 0 nothing, else the corners. -/
theorem cut_whole {c : Bool} {ps : List Pt} (h : ps.length ≤ 700) (hn : ¬ lengthL c ps = 0) : cutL c ps 0 (lengthL c ps) = corN ps 0 (sidesN c ps.length) := by
  have i := lenN_in ps (sidesN c ps.length)
  have hs := sidesN_le c ps.length
  unfold lengthL at hn ⊢
  rw [cutL_yes (by rw [hold_len, show hold 0 = 0 by decide]; omega), hold_len, show hold 0 = 0 by decide]
  have := cut_cor (ps := ps) (k := 0) (M := sidesN c ps.length) (by omega) (Nat.le_refl _)
  rw [Nat.zero_add, lenN_zero] at this
  exact this
theorem cut_nothing {c : Bool} {ps : List Pt} (hn : lengthL c ps = 0) : cutL c ps 0 (lengthL c ps) = [] := by
  rw [hn]; exact cutL_no (by decide)
theorem whole_chain {c : Bool} {ps : List Pt} : Chain ps 0 (sidesN c ps.length) := chain_in (by have := sidesN_le c ps.length; omega)
theorem whole_long {c : Bool} {ps : List Pt} (h : ps.length ≤ 700) : lengthL false (corN ps 0 (sidesN c ps.length)) = lengthL c ps := by
  have hs := sidesN_le c ps.length
  rw [cor_long (by omega) whole_chain, lenN_zero, Nat.zero_add]
  unfold lengthL
  omega
theorem whole_two {c : Bool} {ps : List Pt} (h : ps.length ≤ 700) (hn : ¬ lengthL c ps = 0) : 2 ≤ (corN ps 0 (sidesN c ps.length)).length := by
  have hs := sidesN_le c ps.length
  rcases cor_inv (ps := ps) (k := 0) (M := sidesN c ps.length) (by omega) whole_chain (Nat.le_refl _) with ⟨h0, _⟩ | ⟨L, h0, _⟩
  · exact absurd (by have := corN_none (ps := ps) (k := 0) (by omega) h0; rw [Nat.zero_add, lenN_zero] at this; exact this) hn
  · omega

end M
end Go.Proofs.Ytafaafaclijfiaa
