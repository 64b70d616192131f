/- Contract of mutoscopekeep's Tape.Shape: for every tape a shape as 'Made3' says, its lists its own; the tape alone turns. -/
import Derived.Test.YtglbfpjjnboeaaaGreatTK5
import Derived.Test.YtglbfpjjnboeaaaGreatKE5
import Derived.Test.YtglbfpjjnboeaaaGreatTP
import Derived.Test.YtglbfpjjnboeaaaGreatPMath
import Derived.Test.YtglbfpjjnboeaaaGreatTMath
import Derived.Test.YtglbfpjjnboeaaaGreatRK5
import Derived.Test.YtglbfpjjnboeaaaGreatRA7
import Derived.Test.YtglbfpjjnboeaaaGreatQ8
import Derived.Test.YtglbfpjjnboeaaaGreatPB
import Derived.Test.YtglbfpjjnboeaaaGreatKMath
import Derived.Test.YtglbfpjjnboeaaaGreatK4
import Derived.Test.YtglbfpjjnboeaaaGreatQt
import Derived.Test.YtglbfpjjnboeaaaGreatK5
import Derived.Test.YtglbfpjjnboeaaaGreatKR5
import Derived.Test.YtglbfpjjnboeaaaGreatMKK
import Derived.Test.YtglbfpjjnboeaaaGreatKA5
import Derived.Test.YtglbfpjjnboeaaaGreatKA7
import Derived.Test.YtglbfpjjnboeaaaGreatTail
import Derived.Laws.Tables
import Derived.Laws.Rows
import Derived.Test.YtglbfpjjnboeaaaGreatEMath
import Derived.Test.YtglbfpjjnboeaaaGreatApp
import Derived.Test.YtglbfpjjnboeaaaGreatTB7
import Derived.Deep.RegionHeld3
import Derived.Deep.RegionLaw
import Derived.Great.Frames
namespace Go.Proofs.YtglbfpjjnboeaaaGreat
open Go.RowKit
open M

theorem Own.kept {w w' : World} {B : Nat} {v : Value} {qs : List Ky} {row : Option Nat} (h : Own w B v qs) (hg : w.grownBy w' row) (hr : ∀ k, row = some k → v.ownBlock ≠ some k) : Own w' B v qs := by
  refine World.ownsRow.kept h hg ?_
  by_cases e : v.ownBlock = none
  · exact Or.inl e
  · refine Or.inr fun e2 => ?_
    cases hrow : row with
    | none => rw [hrow] at e2; exact e e2
    | some k => rw [hrow] at e2; exact hr k hrow e2
theorem rightN_left {qs : List Ky} {k : Ky} : ∀ {m : Nat}, m ≤ qs.length → rightN (qs ++ [k]) m = rightN qs m
  | 0, _ => rfl
  | m + 1, h => by
    unfold rightN
    rw [rightN_left (by omega), ky_left (by omega), ky_left (by omega)]
/-- Keys that may be, all of them ahead of the tick A. -/
structure Kept (qs : List Ky) (A : Int) : Prop where
  right : rightN qs qs.length = true
  bot : 0 ≤ A
  top : A ≤ 5 + 8 * qs.length
  last : 0 < qs.length → (ky qs (qs.length - 1)).t < A
theorem Kept.snoc {qs : List Ky} {A : Int} (h : Kept qs A) {k : Ky} {A' : Int} (hk : okK k = true) (ht : k.t = A) (h1 : A + 1 ≤ A') (h2 : A' ≤ A + 8) : Kept (qs ++ [k]) A' := by
  have := h.bot
  have := h.top
  refine ⟨?_, by omega, by simp; omega, ?_⟩
  · rw [List.length_append]
    show rightN (qs ++ [k]) (qs.length + 1) = true
    unfold rightN
    rw [rightN_left (Nat.le_refl _), h.right, ky_last, hk]
    by_cases e : qs.length = 0
    · simp [e]
    · rw [ky_left (by omega)]
      have := h.last (by omega)
      simp
      omega
  · intro _
    rw [List.length_append]
    show (ky (qs ++ [k]) (qs.length + 1 - 1)).t < A'
    rw [Nat.add_sub_cancel, ky_last]
    omega
theorem Kept.nil {A : Int} (h0 : 0 ≤ A) (h1 : A ≤ 5) : Kept [] A := ⟨rfl, h0, by simpa using h1, by simp⟩
theorem okK_of {t v h a b c d : Int} (t0 : 0 ≤ t) (t1 : t ≤ 1000) (v0 : -400000 ≤ v) (v1 : v ≤ 800000) (ok : okHow h a b c d = true) : okK ⟨t, v, h, a, b, c, d⟩ = true := by
  unfold okK okIn
  simp only [ok]
  simp
  omega

/-- Five numbers put into a block that is younger than w. -/
theorem five_put {w w1 : World} {g h B : Nat} {v l : Value} {qs : List Ky} (a b c d f : Value) (ht0 : Tp w g v) (hh : w.heap.size ≤ h) (ht : Tp w1 g v) (hg : w.grownBy w1 (some g)) (ho : Own w1 B l qs) (hl : ∀ k, l.ownBlock = some k → k < h) :
    Tp (((((w1.setCell ⟨h, 2, none⟩ a).setCell ⟨h, 3, none⟩ b).setCell ⟨h, 4, none⟩ c).setCell ⟨h, 5, none⟩ d).setCell ⟨h, 6, none⟩ f) g v ∧ w.grownBy (((((w1.setCell ⟨h, 2, none⟩ a).setCell ⟨h, 3, none⟩ b).setCell ⟨h, 4, none⟩ c).setCell ⟨h, 5, none⟩ d).setCell ⟨h, 6, none⟩ f) (some g) ∧
    Own (((((w1.setCell ⟨h, 2, none⟩ a).setCell ⟨h, 3, none⟩ b).setCell ⟨h, 4, none⟩ c).setCell ⟨h, 5, none⟩ d).setCell ⟨h, 6, none⟩ f) B l qs := by
  have hk : w1.grownBy (((((w1.setCell ⟨h, 2, none⟩ a).setCell ⟨h, 3, none⟩ b).setCell ⟨h, 4, none⟩ c).setCell ⟨h, 5, none⟩ d).setCell ⟨h, 6, none⟩ f) (some h) := grownBy_set (grownBy_set (grownBy_set (grownBy_set (grownBy_set (World.grownBy.refl _ _) _ _) _ _) _ _) _ _) _ _
  exact ⟨ht0.young ht hk (fun k e => by simp at e; omega), grownBy_own hg hk (fun k e => by simp at e; omega), ho.kept hk (fun k e e2 => by simp at e; have := hl k e2; omega)⟩
theorem keys_step {w W6 w7 : World} {g B : Nat} {v l l' : Value} {qs : List Ky} {k : Ky} {o : Obj} (hB : w.heap.size = B) (ht0 : Tp w g v) (h6 : Tp W6 g v ∧ w.grownBy W6 (some g) ∧ Own W6 B l qs)
    (hown' : w7.ownsRow B 38 7 l' (qs.length + 1) (kls qs ++ kl k)) (hg' : (W6.alloc o).grownBy w7 l.ownBlock) : Tp w7 g v ∧ w.grownBy w7 (some g) ∧ Own w7 B l' (qs ++ [k]) := by
  have hl : ∀ j, l.ownBlock = some j → w.heap.size ≤ j := fun j hj => by rw [hB]; exact (World.ownsRow.lt h6.2.2 j hj).1
  exact ⟨ht0.young (tp_alloc h6.1 o) hg' hl, grownBy_own (grownBy_own h6.2.1 (World.grownBy_alloc W6 o none) (fun k hk => by cases hk)) hg' hl, Own.snoc hown'⟩

def Keyss (w : World) (g : Nat) (v : Value) (e : Ending) (w' : World) : Prop := ∃ (l : Value) (qs : List Ky) (A : Int), e = .returned l ∧ Kept qs A ∧ qs.length ≤ 3 ∧ Own w' w.heap.size l qs ∧ Tp w' g v ∧ w.grownBy w' (some g)

set_option maxHeartbeats 4000000 in
theorem t_keys (g : Nat) (v : Value) (w : World) (h : Tp w g v) :
    Calls Tryz.prog 23 #[.pointer (some ⟨g, 0, none⟩), .int .i64 (-5), .int .i64 9] w (Keyss w g v) := by
  obtain ⟨i0, hi, hz0, hz1, hz2⟩ := info_parts Tryz.infoKey
  obtain ⟨B, hB⟩ : ∃ B, w.heap.size = B := ⟨_, rfl⟩
  have hgB : g < B := by rw [← hB]; exact h.lt
  have HW := Lib.hid hB
  have HT := Lib.hid h
  clear h hB
  go_enter Tryz.func23, Tryz.ntmps23
  go_wp2_with fail
  refine (t_next g v _ _ (by omega) (by omega) HT.out).mono ?_
  rintro e w1 ⟨A, rfl, A0, A1, ht, hg⟩
  have H1 := Lib.hid ht
  have G1 := Lib.hid hg
  clear ht hg
  go_wp2_with fail
  refine (t_next g v _ _ (by omega) (by omega) H1.out).mono ?_
  rintro e w2 ⟨y, rfl, y0, y1, ht, hg⟩
  have H2 := Lib.hid ht
  have G2 := Lib.hid (grownBy_trans G1.out hg)
  clear ht hg H1 G1
  obtain ⟨m0, rfl⟩ := Int.eq_ofNat_of_zero_le y0
  go_wp2
  go_loopw [7, 8, 9, 10] (fun out at' n _ wr => ∃ (m : Nat) (A : Int) (qs : List Ky), n = .int .i64 m ∧ at' = .int .i64 A ∧ m + qs.length ≤ 3 ∧ Kept qs A ∧ Own wr B out qs ∧ Tp wr g v ∧ w.grownBy wr (some g)) (fun _ _ n _ _ => (intOf n).toNat)
  case atStart => exact ⟨m0, A, [], rfl, rfl, by simp; omega, Kept.nil A0 (by omega), Own.nil _ _, H2.out, G2.out⟩
  case round =>
    clear H2 G2 A0 A1 y0 y1
    obtain ⟨m, A, qs, rfl, rfl, hm, hk, hown, ht, hg⟩ := hrel
    have hsz : B ≤ wr.heap.size := by have := hg.size; have := HW.out; omega
    have A0 := hk.bot
    have A1 : A ≤ 100 := by have := hk.top; omega
    have HM := Lib.hid hm
    have HK := Lib.hid hk
    have HO := Lib.hid hown
    have H3 := Lib.hid ht
    have G3 := Lib.hid hg
    clear hm hk hown ht hg
    rcases (show m = 0 ∨ ∃ j : Nat, m = j + 1 from by cases m with | zero => exact Or.inl rfl | succ j => exact Or.inr ⟨j, rfl⟩) with rfl | ⟨m, rfl⟩
    rotate_left
    · go_wp2_with fail
      refine (t_number g v _ _ _ (by omega) (by omega) (by omega) H3.out).mono ?_
      rintro e w4 ⟨x, rfl, x0, x1, ht, hg⟩
      have H4 := Lib.hid (tp_alloc ht (.cells (kCells ⟨A, x, 0, 0, 0, 0, 0⟩) 38))
      have G4 := Lib.hid (grownBy_own (grownBy_trans G3.out hg) (World.grownBy_alloc w4 (.cells (kCells ⟨A, x, 0, 0, 0, 0, 0⟩) 38) none) (fun k hk => by cases hk))
      have O4 := Lib.hid (Own.alloc (HO.out.kept hg (fun k hk e => by simp at hk; have := (World.ownsRow.lt HO.out k e).1; omega)) (.cells (kCells ⟨A, x, 0, 0, 0, 0, 0⟩) 38))
      have K4 : Has (w4.alloc (.cells (kCells ⟨A, x, 0, 0, 0, 0, 0⟩) 38)) w4.heap.size (kCells ⟨A, x, 0, 0, 0, 0, 0⟩) 38 := has_new0
      have HK4 := Lib.hid K4
      have s4 : B ≤ w4.heap.size := by have := hg.size; omega
      have LT := Lib.hid (fun k (e : Value.ownBlock u7 = some k) => (show k < w4.heap.size by have := (World.ownsRow.lt HO.out k e).2; have := hg.size; omega))
      clear ht hg K4 H3 G3
      go_wp2_with fail
      refine (t_how g v _ H4.out).mono ?_
      rintro e w5 ⟨kh, a, b, c, d, rfl, ok, ht, hg⟩
      have K5 := has_grown HK4.out hg (by omega)
      have k0 := K5.cell 0 _ rfl
      have k1 := K5.cell 1 _ rfl
      have k2 := K5.cell 2 _ rfl
      have k3 := K5.cell 3 _ rfl
      have k4 := K5.cell 4 _ rfl
      have k5 := K5.cell 5 _ rfl
      have k6 := K5.cell 6 _ rfl
      have fz := has_fro K5
      have O5 := O4.out.kept hg (fun k hk e => by simp at hk; have := (World.ownsRow.lt O4.out k e).1; omega)
      have H6 := five_put (h := w4.heap.size) (.int .i64 kh) (.int .i64 a) (.int .i64 b) (.int .i64 c) (.int .i64 d) HT.out (by have := HW.out; omega) ht (grownBy_trans G4.out hg) O5 (fun k e => by have := LT.out k e; omega)
      have ok' : okK ⟨A, x, kh, a, b, c, d⟩ = true := okK_of A0 (by omega) (by omega) (by omega) ok
      have HOK := Lib.hid ok'
      have HH6 := Lib.hid H6
      clear ht hg O5 H6 ok' ok K5 HK4 O4 G4 H4 HO LT
      go_wp2_with (at_builtin; refine wpList_append_near _ rfl _ _ 24 rfl B 38 i0 (.agg #[.int .i64 0, .int .i64 0, .int .i64 0, .int .i64 0, .int .i64 0, .int .i64 0, .int .i64 0]) 7 56 Tryz.underlying24 hi hz0 hz1 hz2 rfl (by decide) _ _ _ rfl (HH6.out.2.2.alloc _) ⟨w5.heap.size, 0, none⟩ 1 1 (kl ⟨A, x, kh, a, b, c, d⟩) rfl rfl (seven_cells (by simp)) (ints_one_kl _) ?c3 ?c4 ?c5 ?_)
      case c3 => have := HM.out; unfold maxLen; omega
      case c4 => have := HM.out; omega
      case c5 => have := HH6.out.2.1.size; have := HW.out; simp at *; omega
      intro l' w7 hown' hg' _
      have H7 := Lib.hid (keys_step HW.out HT.out HH6.out hown' hg')
      clear hown' hg' HH6 k0 k1 k2 k3 k4 k5 k6 fz
      go_wp2_with fail
      refine (t_next g v _ _ (by omega) (by omega) H7.out.1).mono ?_
      rintro e w8 ⟨z, rfl, z0, z1, ht, hg⟩
      have O8 := Lib.hid (H7.out.2.2.kept hg (fun k hk e => by simp at hk; have := (World.ownsRow.lt H7.out.2.2 k e).1; omega))
      have G8 := Lib.hid (grownBy_trans H7.out.2.1 hg)
      have T8 := Lib.hid ht
      have Q8 := Lib.hid (HK.out.snoc (A' := A + 1 + z) HOK.out rfl (by omega) (by omega))
      have m3 : (m : Int) ≤ 3 := by have := HM.out; omega
      clear ht hg H7 HK HOK
      go_wp2
      go_roundw
      case rel => exact ⟨m, _, _, by go_num, rfl, by have := HM.out; simp; omega, Q8.out, O8.out, T8.out, G8.out⟩
      case measure => simp [intOf]
    · have R : Keyss w g v (.returned u7) wr := ⟨u7, qs, A, rfl, HK.out, by have := HM.out; omega, by rw [HW.out]; exact HO.out, H3.out, G3.out⟩
      have RH := Lib.hid R
      clear R HO HK H3 G3 HM
      go_wp2
      go_ret
      exact RH.out

end Go.Proofs.YtglbfpjjnboeaaaGreat

namespace Go.Proofs.YtglbfpjjnboeaaaGreat
open Go.RowKit
open M

theorem okK_of2 {t v h a b c d : Int} (t0 : 0 ≤ t) (t1 : t ≤ 1000) (v0 : -60000000 ≤ v) (v1 : v ≤ 60000000) (ok : okHow h a b c d = true) : okK ⟨t, v, h, a, b, c, d⟩ = true := by
  unfold okK okIn
  simp only [ok]
  simp
  omega
/-- Keys that may be, all of them ahead of the tick A, none ahead of 0, of numbers between the bounds. -/
structure KeptG (lo hi : Int) (qs : List Ky) (A : Int) : Prop where
  kept : Kept qs A
  tick : ∀ i, i < qs.length → 0 ≤ (ky qs i).t
  num : ∀ i, i < qs.length → lo * 65536 ≤ (ky qs i).v ∧ (ky qs i).v ≤ hi * 65536 + 65535
  ahead : ∀ i, i < qs.length → (ky qs i).t < A
theorem KeptG.nil {lo hi A : Int} (h0 : 0 ≤ A) (h1 : A ≤ 5) : KeptG lo hi [] A := ⟨Kept.nil h0 h1, fun i hi => by simp at hi, fun i hi => by simp at hi, fun i hi => by simp at hi⟩
theorem KeptG.snoc {lo hi : Int} {qs : List Ky} {A : Int} (h : KeptG lo hi qs A) {k : Ky} {A' : Int} (hk : okK k = true) (ht : k.t = A) (hv : lo * 65536 ≤ k.v ∧ k.v ≤ hi * 65536 + 65535) (h1 : A + 1 ≤ A') (h2 : A' ≤ A + 8) : KeptG lo hi (qs ++ [k]) A' := by
  have a0 := h.kept.bot
  have each : ∀ (P : Ky → Prop), (∀ i, i < qs.length → P (ky qs i)) → P k → ∀ i, i < (qs ++ [k]).length → P (ky (qs ++ [k]) i) := by
    intro P h1 h2 i hi
    simp at hi
    by_cases e : i < qs.length
    · rw [ky_left e]; exact h1 i e
    · obtain rfl : i = qs.length := by omega
      rw [ky_last]; exact h2
  exact ⟨h.kept.snoc hk ht h1 h2, each (fun k => 0 ≤ k.t) h.tick (by omega), each (fun k => lo * 65536 ≤ k.v ∧ k.v ≤ hi * 65536 + 65535) h.num hv, each (fun k => k.t < A') (fun i hi => by have := h.ahead i hi; omega) (by omega)⟩

def KeyssG (lo hi : Int) (w : World) (g : Nat) (v : Value) (e : Ending) (w' : World) : Prop := ∃ (l : Value) (qs : List Ky) (A : Int), e = .returned l ∧ KeptG lo hi qs A ∧ qs.length ≤ 3 ∧ Own w' w.heap.size l qs ∧ Tp w' g v ∧ w.grownBy w' (some g)

set_option maxHeartbeats 4000000 in
theorem t_keysG (g : Nat) (v : Value) (lo up : Int) (w : World) (l0 : -100 ≤ lo) (l1 : lo ≤ up) (l2 : up ≤ 100) (h : Tp w g v) :
    Calls Tryz.prog 23 #[.pointer (some ⟨g, 0, none⟩), .int .i64 lo, .int .i64 up] w (KeyssG lo up w g v) := by
  obtain ⟨i0, hi, hz0, hz1, hz2⟩ := info_parts Tryz.infoKey
  obtain ⟨B, hB⟩ : ∃ B, w.heap.size = B := ⟨_, rfl⟩
  have hgB : g < B := by rw [← hB]; exact h.lt
  have HW := Lib.hid hB
  have HT := Lib.hid h
  clear h hB
  go_enter Tryz.func23, Tryz.ntmps23
  go_wp2_with fail
  refine (t_next g v _ _ (by omega) (by omega) HT.out).mono ?_
  rintro e w1 ⟨A, rfl, A0, A1, ht, hg⟩
  have H1 := Lib.hid ht
  have G1 := Lib.hid hg
  clear ht hg
  go_wp2_with fail
  refine (t_next g v _ _ (by omega) (by omega) H1.out).mono ?_
  rintro e w2 ⟨y, rfl, y0, y1, ht, hg⟩
  have H2 := Lib.hid ht
  have G2 := Lib.hid (grownBy_trans G1.out hg)
  clear ht hg H1 G1
  obtain ⟨m0, rfl⟩ := Int.eq_ofNat_of_zero_le y0
  go_wp2
  go_loopw [7, 8, 9, 10] (fun out at' n _ wr => ∃ (m : Nat) (A : Int) (qs : List Ky), n = .int .i64 m ∧ at' = .int .i64 A ∧ m + qs.length ≤ 3 ∧ KeptG lo up qs A ∧ Own wr B out qs ∧ Tp wr g v ∧ w.grownBy wr (some g)) (fun _ _ n _ _ => (intOf n).toNat)
  case atStart => exact ⟨m0, A, [], rfl, rfl, by simp; omega, KeptG.nil A0 (by omega), Own.nil _ _, H2.out, G2.out⟩
  case round =>
    clear H2 G2 A0 A1 y0 y1
    obtain ⟨m, A, qs, rfl, rfl, hm, hk, hown, ht, hg⟩ := hrel
    have hsz : B ≤ wr.heap.size := by have := hg.size; have := HW.out; omega
    have A0 := hk.kept.bot
    have A1 : A ≤ 100 := by have := hk.kept.top; omega
    have HM := Lib.hid hm
    have HK := Lib.hid hk
    have HO := Lib.hid hown
    have H3 := Lib.hid ht
    have G3 := Lib.hid hg
    clear hm hk hown ht hg
    rcases (show m = 0 ∨ ∃ j : Nat, m = j + 1 from by cases m with | zero => exact Or.inl rfl | succ j => exact Or.inr ⟨j, rfl⟩) with rfl | ⟨m, rfl⟩
    rotate_left
    · go_wp2_with fail
      refine (t_number g v _ _ _ (by omega) (by omega) (by omega) H3.out).mono ?_
      rintro e w4 ⟨x, rfl, x0, x1, ht, hg⟩
      have H4 := Lib.hid (tp_alloc ht (.cells (kCells ⟨A, x, 0, 0, 0, 0, 0⟩) 38))
      have G4 := Lib.hid (grownBy_own (grownBy_trans G3.out hg) (World.grownBy_alloc w4 (.cells (kCells ⟨A, x, 0, 0, 0, 0, 0⟩) 38) none) (fun k hk => by cases hk))
      have O4 := Lib.hid (Own.alloc (HO.out.kept hg (fun k hk e => by simp at hk; have := (World.ownsRow.lt HO.out k e).1; omega)) (.cells (kCells ⟨A, x, 0, 0, 0, 0, 0⟩) 38))
      have K4 : Has (w4.alloc (.cells (kCells ⟨A, x, 0, 0, 0, 0, 0⟩) 38)) w4.heap.size (kCells ⟨A, x, 0, 0, 0, 0, 0⟩) 38 := has_new0
      have HK4 := Lib.hid K4
      have s4 : B ≤ w4.heap.size := by have := hg.size; omega
      have LT := Lib.hid (fun k (e : Value.ownBlock u7 = some k) => (show k < w4.heap.size by have := (World.ownsRow.lt HO.out k e).2; have := hg.size; omega))
      clear ht hg K4 H3 G3
      go_wp2_with fail
      refine (t_how g v _ H4.out).mono ?_
      rintro e w5 ⟨kh, a, b, c, d, rfl, ok, ht, hg⟩
      have K5 := has_grown HK4.out hg (by omega)
      have k0 := K5.cell 0 _ rfl
      have k1 := K5.cell 1 _ rfl
      have k2 := K5.cell 2 _ rfl
      have k3 := K5.cell 3 _ rfl
      have k4 := K5.cell 4 _ rfl
      have k5 := K5.cell 5 _ rfl
      have k6 := K5.cell 6 _ rfl
      have fz := has_fro K5
      have O5 := O4.out.kept hg (fun k hk e => by simp at hk; have := (World.ownsRow.lt O4.out k e).1; omega)
      have H6 := five_put (h := w4.heap.size) (.int .i64 kh) (.int .i64 a) (.int .i64 b) (.int .i64 c) (.int .i64 d) HT.out (by have := HW.out; omega) ht (grownBy_trans G4.out hg) O5 (fun k e => by have := LT.out k e; omega)
      have XB : Hid (lo * 65536 ≤ x ∧ x ≤ up * 65536 + 65535) := Lib.hid ⟨by omega, by omega⟩
      have ok' : okK ⟨A, x, kh, a, b, c, d⟩ = true := okK_of2 A0 (by omega) (by omega) (by omega) ok
      have HOK := Lib.hid ok'
      have HH6 := Lib.hid H6
      clear ht hg O5 H6 ok' ok K5 HK4 O4 G4 H4 HO LT
      go_wp2_with (at_builtin; refine wpList_append_near _ rfl _ _ 24 rfl B 38 i0 (.agg #[.int .i64 0, .int .i64 0, .int .i64 0, .int .i64 0, .int .i64 0, .int .i64 0, .int .i64 0]) 7 56 Tryz.underlying24 hi hz0 hz1 hz2 rfl (by decide) _ _ _ rfl (HH6.out.2.2.alloc _) ⟨w5.heap.size, 0, none⟩ 1 1 (kl ⟨A, x, kh, a, b, c, d⟩) rfl rfl (seven_cells (by simp)) (ints_one_kl _) ?c3 ?c4 ?c5 ?_)
      case c3 => have := HM.out; unfold maxLen; omega
      case c4 => have := HM.out; omega
      case c5 => have := HH6.out.2.1.size; have := HW.out; simp at *; omega
      intro l' w7 hown' hg' _
      have H7 := Lib.hid (keys_step HW.out HT.out HH6.out hown' hg')
      clear hown' hg' HH6 k0 k1 k2 k3 k4 k5 k6 fz
      go_wp2_with fail
      refine (t_next g v _ _ (by omega) (by omega) H7.out.1).mono ?_
      rintro e w8 ⟨z, rfl, z0, z1, ht, hg⟩
      have O8 := Lib.hid (H7.out.2.2.kept hg (fun k hk e => by simp at hk; have := (World.ownsRow.lt H7.out.2.2 k e).1; omega))
      have G8 := Lib.hid (grownBy_trans H7.out.2.1 hg)
      have T8 := Lib.hid ht
      have Q8 := Lib.hid (HK.out.snoc (A' := A + 1 + z) HOK.out rfl XB.out (by omega) (by omega))
      have m3 : (m : Int) ≤ 3 := by have := HM.out; omega
      clear ht hg H7 HK HOK
      go_wp2
      go_roundw
      case rel => exact ⟨m, _, _, by go_num, rfl, by have := HM.out; simp; omega, Q8.out, O8.out, T8.out, G8.out⟩
      case measure => simp [intOf]
    · have R : KeyssG lo up w g v (.returned u7) wr := ⟨u7, qs, A, rfl, HK.out, by have := HM.out; omega, by rw [HW.out]; exact HO.out, H3.out, G3.out⟩
      have RH := Lib.hid R
      clear R HO HK H3 G3 HM
      go_wp2
      go_ret
      exact RH.out

def PtsG (lo hi : Int) (w : World) (g : Nat) (v : Value) (e : Ending) (w' : World) : Prop := ∃ x y : Int, e = .returned (.agg #[.int .i64 x, .int .i64 y]) ∧ (lo * 65536 ≤ x ∧ x ≤ hi * 65536 + 65535 ∧ lo * 65536 ≤ y ∧ y ≤ hi * 65536 + 65535) ∧ Tp w' g v ∧ w.grownBy w' (some g)
set_option maxHeartbeats 1000000 in
theorem t_pointG (g : Nat) (v : Value) (lo hi : Int) (w : World) (l0 : -100 ≤ lo) (l1 : lo ≤ hi) (l2 : hi ≤ 100) (h : Tp w g v) :
    Calls Tryz.prog 51 #[.pointer (some ⟨g, 0, none⟩), .int .i64 lo, .int .i64 hi] w (PtsG lo hi w g v) := by
  have h0 : Tp (w.alloc (.cells #[.int .i64 0, .int .i64 0] 29)) g v := tp_alloc h _
  have g0 : w.grownBy (w.alloc (.cells #[.int .i64 0, .int .i64 0] 29)) (some g) := World.grownBy_alloc _ _ _
  have k0 : Has (w.alloc (.cells #[.int .i64 0, .int .i64 0] 29)) w.heap.size #[.int .i64 0, .int .i64 0] 29 := has_new0
  have hne : w.heap.size ≠ g := by have := h.lt; omega
  have HT := Lib.hid h
  have H0 := Lib.hid h0
  have G0 := Lib.hid g0
  have K0 := Lib.hid k0
  have HN := Lib.hid hne
  clear h h0 g0 k0 hne
  go_enter Tryz.func51, Tryz.ntmps51
  go_wp2_with fail
  refine (t_number g v _ _ _ (by omega) (by omega) (by omega) H0.out).mono ?_
  rintro e w1 ⟨x, rfl, x0, x1, ht, hg⟩
  have H1 := Lib.hid ht
  have G1 := Lib.hid (grownBy_trans G0.out hg)
  have K1 := Lib.hid (has_grown K0.out hg HN.out)
  clear ht hg H0 G0 K0
  go_wp2_with fail
  refine (t_number g v _ _ _ (by omega) (by omega) (by omega) H1.out).mono ?_
  rintro e w2 ⟨y, rfl, y0, y1, ht, hg⟩
  have K2 := has_grown K1.out hg HN.out
  have R := two_put (h := w.heap.size) (.int .i64 x) (.int .i64 y) HT.out (Nat.le_refl _) ht (grownBy_trans G1.out hg)
  have k0 := K2.cell 0 _ rfl
  have k1 := K2.cell 1 _ rfl
  have fz := has_fro K2
  have RH := Lib.hid R
  clear ht hg H1 G1 K1 K2 R HT
  go_wp2
  refine bodyPost_ret (v := .agg #[.int .i64 x, .int .i64 y]) (by simp [results, Tryz.results51, go_sem, k0, k1]) rfl ?_
  exact ⟨x, y, rfl, ⟨by omega, by omega, by omega, by omega⟩, RH.out.1, RH.out.2⟩

end Go.Proofs.YtglbfpjjnboeaaaGreat

namespace Go.Proofs.YtglbfpjjnboeaaaGreat
namespace M

/-- The path behind the first n sides of a ring of places. -/
def strN (ps : List Pt) : Nat → List Pt
  | 0 => [pt ps 0]
  | n + 1 => strN ps n ++ [pt ps n, pt ps ((n + 1) % ps.length), pt ps ((n + 1) % ps.length)]
def straightL (ps : List Pt) : List Pt := strN ps ps.length
theorem strN_length (ps : List Pt) : ∀ n, (strN ps n).length = 3 * n + 1
  | 0 => rfl
  | n + 1 => by unfold strN; rw [List.length_append, strN_length ps n]; simp; omega
theorem straightL_length (ps : List Pt) : (straightL ps).length = 3 * ps.length + 1 := strN_length _ _
def rectP (w h : Int) : List Pt := [⟨-(w / 2), -(h / 2)⟩, ⟨w - w / 2, -(h / 2)⟩, ⟨w - w / 2, h - h / 2⟩, ⟨-(w / 2), h - h / 2⟩]
def rectL (w h : Int) : List Pt := straightL (rectP w h)
def ovalN (a b k l : Int) : List Pt := [⟨a, 0⟩, ⟨a, l⟩, ⟨k, b⟩, ⟨0, b⟩, ⟨-k, b⟩, ⟨-a, l⟩, ⟨-a, 0⟩, ⟨-a, -l⟩, ⟨-k, -b⟩, ⟨0, -b⟩, ⟨k, -b⟩, ⟨a, -l⟩, ⟨a, 0⟩]
def ovalL (w h : Int) : List Pt := ovalN (w / 2) (h / 2) (mul (w / 2) 36195) (mul (h / 2) 36195)
/-- How many points a star has. -/
def points (n : Int) : Int := clamp n 2 16
def angle (c : Int) (j : Nat) : Int := (j * 11796480) / c - 5898240
def starP (c r s : Int) (j : Nat) : Pt := ⟨mul (if j % 2 = 1 then s else r) (cos (angle c j)), mul (if j % 2 = 1 then s else r) (sin (angle c j))⟩
def starN (c r s : Int) (n : Nat) : List Pt := (List.range n).map (starP c r s)
def starL (n r s : Int) : List Pt := straightL (starN (points n) r s (2 * (points n).toNat))
theorem starN_length (c r s : Int) (n : Nat) : (starN c r s n).length = n := by simp [starN]
theorem starN_snoc (c r s : Int) (n : Nat) : starN c r s (n + 1) = starN c r s n ++ [starP c r s n] := by unfold starN; rw [List.range_succ]; simp

end M
end Go.Proofs.YtglbfpjjnboeaaaGreat

namespace Go.Proofs.YtglbfpjjnboeaaaGreat
open Go.RowKit
open M

theorem r5_moves (t h a b c d : Int) (w : World) :
    Calls Tryz.prog 58 #[.int .i64 t, .int .i64 h, .agg #[.int .i64 a, .int .i64 b, .int .i64 c, .int .i64 d]] w fun e w' => e = .returned (.bool (okIn t 1073741824 && okHow h a b c d)) ∧ Below w.heap.size w w' := by
  have hp : ∃ p, okIn t 1073741824 = p ∧ (decide (-1073741824 ≤ t) && decide (t ≤ 1073741824)) = p := ⟨_, rfl, rfl⟩
  obtain ⟨p, hp, hp'⟩ := hp
  rw [hp]
  have P := Lib.hid hp'
  clear hp hp'
  cases p with
  | false =>
    go_enter Tryz.func58, Tryz.ntmps58
    go_wp2_with (first | (go_at_call 59; refine (r5_within _ _ _ _).mono ?_; rintro e w' ⟨rfl, rfl⟩; rw [P.out]))
    go_ret
    exact ⟨by simp, (Below.refl _ _).alloc (Nat.le_refl _) _⟩
  | true =>
    by_cases h2 : h = 2
    · subst h2
      rw [show okHow 2 a b c d = okE a b c d by simp [okHow]]
      go_enter Tryz.func58, Tryz.ntmps58
      go_wp2_with (first | (go_at_call 59; refine (r5_within _ _ _ _).mono ?_; rintro e w' ⟨rfl, rfl⟩; rw [P.out]))
      refine (r5_ease _ _ _ _ _).mono ?_
      rintro e w1 ⟨rfl, hq⟩
      obtain ⟨_, HB⟩ := k4_keep has_new0 hq
      clear hq
      have HBB := Lib.hid HB
      clear HB
      go_wp2
      go_ret
      exact ⟨by simp, HBB.out⟩
    · by_cases h0 : h = 0 ∨ h = 1
      · rw [show okHow h a b c d = decide (a = 0 ∧ b = 0 ∧ c = 0 ∧ d = 0) from if_pos h0]
        rcases h0 with rfl | rfl
        · go_enter Tryz.func58, Tryz.ntmps58
          go_wp2_with (first | (go_at_call 59; refine (r5_within _ _ _ _).mono ?_; rintro e w' ⟨rfl, rfl⟩; rw [P.out]))
          all_goals
            go_ret
            exact ⟨by simp [*], (Below.refl _ _).alloc (Nat.le_refl _) _⟩
        · go_enter Tryz.func58, Tryz.ntmps58
          go_wp2_with (first | (go_at_call 59; refine (r5_within _ _ _ _).mono ?_; rintro e w' ⟨rfl, rfl⟩; rw [P.out]))
          all_goals
            go_ret
            exact ⟨by simp [*], (Below.refl _ _).alloc (Nat.le_refl _) _⟩
      · rw [show okHow h a b c d = false by simp [okHow, h0, h2]]
        have h00 : ¬ h = 0 := fun e => h0 (Or.inl e)
        have h01 : ¬ h = 1 := fun e => h0 (Or.inr e)
        clear h0
        go_enter Tryz.func58, Tryz.ntmps58
        go_wp2_with (first | (go_at_call 59; refine (r5_within _ _ _ _).mono ?_; rintro e w' ⟨rfl, rfl⟩; rw [P.out]))
        go_ret
        exact ⟨by simp, (Below.refl _ _).alloc (Nat.le_refl _) _⟩

theorem r5_right0 (ao : Option Addr) (cap : Nat) (w : World) :
    Calls Tryz.prog 31 #[.slice ao 0 cap] w fun e w' => e = .returned (.bool true) ∧ Below w.heap.size w w' := by
  go_enter Tryz.func31, Tryz.ntmps31
  go_wp2
  go_loop [3] (fun i => i = .int .i64 0) (fun _ => 0)
  case atStart => rfl
  case round =>
    subst hrel
    go_wp2
    go_ret
    exact ⟨rfl, Below.refl _ _⟩

set_option maxHeartbeats 2000000 in
theorem r5_right1 (g o cap : Nat) (ks : List Ky) (w : World) (hr : Row w g o ks) (hn : 0 < ks.length) :
    Calls Tryz.prog 31 #[.slice (some ⟨g, o, none⟩) ks.length cap] w fun e w' => e = .returned (.bool (right ks)) ∧ Below w.heap.size w w' := by
  have hf := hr.few
  have hg := hr.lt hn
  have HR := Lib.hid hr
  clear hr
  obtain ⟨R, hR⟩ : ∃ R, right ks = R := ⟨_, rfl⟩
  rw [hR]
  have RR := Lib.hid hR
  clear hR
  go_enter Tryz.func31, Tryz.ntmps31
  go_wp2
  go_loopw [3] (fun i wr => ∃ n : Nat, n ≤ ks.length ∧ i = .int .i64 n ∧ rightN ks n = true ∧ Below w.heap.size w wr) (fun i _ => ks.length - (intOf i).toNat)
  case atStart => exact ⟨0, by omega, rfl, rfl, Below.refl _ _⟩
  case round =>
    obtain ⟨n, hn', rfl, he, hb⟩ := hrel
    have HE := Lib.hid he
    have HB := Lib.hid hb
    clear he hb
    by_cases hlt : n < ks.length
    · have hr' := fun (z : Later wr) => (HR.out.below HB.out hg).later hn z
      have c0 := fun z => (hr' z).c0 n hlt
      have c1 := fun z => (hr' z).c1 n hlt
      have c2 := fun z => (hr' z).c2 n hlt
      have c3 := fun z => (hr' z).c3 n hlt
      have c4 := fun z => (hr' z).c4 n hlt
      have c5 := fun z => (hr' z).c5 n hlt
      have c6 := fun z => (hr' z).c6 n hlt
      have o1 : (n : Int) < ks.length := by omega
      obtain ⟨p, hp⟩ : ∃ p, (okIn (ky ks n).t 1073741824 && okHow (ky ks n).h (ky ks n).a (ky ks n).b (ky ks n).c (ky ks n).d) = p := ⟨_, rfl⟩
      obtain ⟨q, hq⟩ : ∃ q, okIn (ky ks n).v 67108864 = q := ⟨_, rfl⟩
      have hk : okK (ky ks n) = (p && q) := by
        unfold okK; rw [← hp, ← hq]
        cases okIn (ky ks n).t 1073741824 <;> cases okIn (ky ks n).v 67108864 <;> simp
      have m1 := fun (z : Later wr) => r5_moves (ky ks n).t (ky ks n).h (ky ks n).a (ky ks n).b (ky ks n).c (ky ks n).d z.to
      have m2 := fun (z : Later wr) => r5_within (ky ks n).v (-67108864) 67108864 z.to
      rw [hp] at m1
      rw [show (decide (-67108864 ≤ (ky ks n).v) && decide ((ky ks n).v ≤ 67108864)) = q from hq] at m2
      have M1 := Lib.hid m1
      have M2 := Lib.hid m2
      have HK := Lib.hid hk
      clear hp hq hk m1 m2
      cases p with
      | false =>
        have er : R = false := by
          rw [← RR.out]; unfold right
          rw [rightN_off (m := n + 1) (by omega) (by simp [rightN, HK.out])]; simp
        subst er
        go_wp2_with fail
        refine wp_region_class (C := fun w' => ∃ z : Later wr, w' = z.to) (by kernel_rfl) (by kernel_rfl) ⟨⟨_, below_drew (Below.refl _ _)⟩, rfl⟩ ?_
        repeat (go_big_quiet_step (first | (go_at_call 58; exact Later.calls (M1.out _)) | (go_at_call 59; exact Later.calls (below_of (M2.out _)))))
        refine wpQuiet_nil ?_
        rintro _ ⟨z, rfl⟩
        go_wp2
        go_ret
        exact ⟨rfl, HB.out.trans (z.below.mono HB.out.size)⟩
      | true =>
        cases q with
        | false =>
          have er : R = false := by
            rw [← RR.out]; unfold right
            rw [rightN_off (m := n + 1) (by omega) (by simp [rightN, HK.out])]; simp
          subst er
          go_wp2_with fail
          refine wp_region_class (C := fun w' => ∃ z : Later wr, w' = z.to) (by kernel_rfl) (by kernel_rfl) ⟨⟨_, below_drew (Below.refl _ _)⟩, rfl⟩ ?_
          repeat (go_big_quiet_step (first | (go_at_call 58; exact Later.calls (M1.out _)) | (go_at_call 59; exact Later.calls (below_of (M2.out _)))))
          refine wpQuiet_nil ?_
          rintro _ ⟨z, rfl⟩
          go_wp2
          go_ret
          exact ⟨rfl, HB.out.trans (z.below.mono HB.out.size)⟩
        | true =>
          by_cases h0 : n = 0
          · subst h0
            clear hr'
            simp only [Nat.zero_mul, Nat.add_zero] at c0 c1 c2 c3 c4 c5 c6
            have o0 : (0 : Int) < ks.length := by omega
            clear o1
            go_wp2_with fail
            refine wp_region_class (C := fun w' => ∃ z : Later wr, w' = z.to) (by kernel_rfl) (by kernel_rfl) ⟨⟨_, below_drew (Below.refl _ _)⟩, rfl⟩ ?_
            repeat (go_big_quiet_step (first | (go_at_call 58; exact Later.calls (M1.out _)) | (go_at_call 59; exact Later.calls (below_of (M2.out _)))))
            refine wpQuiet_nil ?_
            rintro _ ⟨z, rfl⟩
            go_wp2
            go_roundw
            case rel => exact ⟨1, by omega, by go_num, by simp [rightN, HK.out], HB.out.trans (z.below.mono HB.out.size)⟩
            case measure => simp [intOf]; omega
          · obtain ⟨m, hm⟩ : ∃ m : Nat, n = m + 1 := ⟨n - 1, by omega⟩
            have e1 : (n : Int) - 1 = (m : Int) := by omega
            have o2 : (m : Int) < ks.length := by omega
            have o3 : 0 < n := by omega
            have d0 := fun z => (hr' z).c0 m (by omega)
            have hx : rightN ks (n + 1) = decide ((ky ks m).t < (ky ks n).t) := by unfold rightN; rw [HE.out, HK.out, hm]; simp
            have HX := Lib.hid hx
            clear hm hx hr'
            by_cases hc : (ky ks m).t < (ky ks n).t
            · go_wp2_with fail
              refine wp_region_class (C := fun w' => ∃ z : Later wr, w' = z.to) (by kernel_rfl) (by kernel_rfl) ⟨⟨_, below_drew (Below.refl _ _)⟩, rfl⟩ ?_
              repeat (go_big_quiet_step (first | (go_at_call 58; exact Later.calls (M1.out _)) | (go_at_call 59; exact Later.calls (below_of (M2.out _)))))
              refine wpQuiet_nil ?_
              rintro _ ⟨z, rfl⟩
              go_wp2
              go_roundw
              case rel => exact ⟨n + 1, by omega, by go_num, by rw [HX.out]; simpa using hc, HB.out.trans (z.below.mono HB.out.size)⟩
              case measure => simp [intOf]; omega
            · have er : R = false := by
                rw [← RR.out]; unfold right
                rw [rightN_off (m := n + 1) (by omega) (by rw [HX.out]; simpa using hc)]; simp
              subst er
              go_wp2_with fail
              refine wp_region_class (C := fun w' => ∃ z : Later wr, w' = z.to) (by kernel_rfl) (by kernel_rfl) ⟨⟨_, below_drew (Below.refl _ _)⟩, rfl⟩ ?_
              repeat (go_big_quiet_step (first | (go_at_call 58; exact Later.calls (M1.out _)) | (go_at_call 59; exact Later.calls (below_of (M2.out _)))))
              refine wpQuiet_nil ?_
              rintro _ ⟨z, rfl⟩
              go_wp2
              go_ret
              exact ⟨rfl, HB.out.trans (z.below.mono HB.out.size)⟩
    · have en : n = ks.length := by omega
      have er : R = decide ((ks.length : Int) ≤ 32) := by
        have h1 : rightN ks ks.length = true := en ▸ HE.out
        rw [← RR.out]; unfold right; rw [h1, Bool.and_true]
        exact decide_eq_decide.2 (by omega)
      subst er
      clear RR HE
      subst en
      go_wp2
      all_goals
        go_ret
        exact ⟨by simp [*], HB.out⟩
theorem r5_right {v : Value} {ks : List Ky} {w : World} (h : Sl w v ks) :
    Calls Tryz.prog 31 #[v] w fun e w' => e = .returned (.bool (right ks)) ∧ Below w.heap.size w w' := by
  rcases h with ⟨rfl, ao, cap, rfl⟩ | ⟨hn, g, o, cap, rfl, hr⟩
  · exact r5_right0 ao cap w
  · exact r5_right1 g o cap ks w hr hn

end Go.Proofs.YtglbfpjjnboeaaaGreat

namespace Go.Proofs.YtglbfpjjnboeaaaGreat
open Go.RowKit
open M

/-- Keys of paths as a tape makes them. -/
structure Mkd (ks : List Pk) : Prop where
  few : ks.length ≤ 4
  how : ∀ i, i < ks.length → (pk ks i).h = 0 ∨ (pk ks i).h = 1
  plain : ∀ i, i < ks.length → (pk ks i).a = 0 ∧ (pk ks i).b = 0 ∧ (pk ks i).c = 0 ∧ (pk ks i).d = 0
  tick : ∀ i, i < ks.length → 0 ≤ (pk ks i).t ∧ (pk ks i).t ≤ 100
  up : ∀ i, i + 1 < ks.length → (pk ks i).t < (pk ks (i + 1)).t
  small : ∀ i, i < ks.length → Small (pk ks i).ps
  form : ∀ i, i < ks.length → ∃ n, 1 ≤ n ∧ n ≤ 6 ∧ (pk ks i).ps.length = 3 * n + 1
def fitN (ks : List Pk) : Nat → Bool
  | 0 => true
  | n + 1 => fitN ks n && fits (pk ks 0).cl (pk ks 0).ps (pk ks n).cl (pk ks n).ps
theorem fitN_off {ks : List Pk} {n i : Nat} (hi : i < n) (h : fits (pk ks 0).cl (pk ks 0).ps (pk ks i).cl (pk ks i).ps = false) : fitN ks n = false := by
  induction n with
  | zero => omega
  | succ n ih =>
    unfold fitN
    by_cases e : i = n
    · subst e; rw [h]; simp
    · rw [ih (by omega)]; rfl
theorem Mkd.okP {ks : List Pk} (h : Mkd ks) {i : Nat} (hi : i < ks.length) : okP (pk ks i).cl (pk ks i).ps = true := by
  obtain ⟨n, n1, n2, hl⟩ := h.form i hi
  rw [okP_pos (by omega), (h.small i hi).near]
  simp [okLen]
  omega
theorem Mkd.pos {ks : List Pk} (h : Mkd ks) {i : Nat} (hi : i < ks.length) : 0 < (pk ks i).ps.length ∧ (pk ks i).ps.length ≤ 19 := by
  obtain ⟨n, n1, n2, hl⟩ := h.form i hi
  omega
theorem Mkd.okHow {ks : List Pk} (h : Mkd ks) {i : Nat} (hi : i < ks.length) : okHow (pk ks i).h (pk ks i).a (pk ks i).b (pk ks i).c (pk ks i).d = true := by
  obtain ⟨a, b, c, d⟩ := h.plain i hi
  unfold M.okHow
  rw [if_pos (h.how i hi)]
  simp [a, b, c, d]
theorem Mkd.rightN {ks : List Pk} (h : Mkd ks) : ∀ n, n ≤ ks.length → rightN (barep ks) n = true
  | 0, _ => rfl
  | n + 1, hn => by
    have hi : n < ks.length := by omega
    have t1 := h.tick n hi
    unfold M.rightN
    rw [h.rightN n (by omega), ky_barep hi]
    have e : okK (barev (pk ks n) 0) = true := by
      unfold okK barev okIn
      simp only [h.okHow hi]
      simp
      omega
    rw [e]
    by_cases e0 : n = 0
    · simp [e0]
    · rw [ky_barep (by omega)]
      have := h.up (n - 1) (by omega)
      rw [show n - 1 + 1 = n by omega] at this
      have e2 : decide ((barev (pk ks (n - 1)) 0).t < (barev (pk ks n) 0).t) = true := decide_eq_true this
      rw [e2]
      simp
theorem Mkd.right {ks : List Pk} (h : Mkd ks) : right (barep ks) = true := by
  unfold M.right
  rw [barep_length, h.rightN _ (Nat.le_refl _)]
  have := h.few
  simp
  omega
theorem fits_comm (c d : Bool) (ps qs : List Pt) : fits c ps d qs = fits d qs c ps := by
  unfold fits
  rw [show (c == d) = (d == c) by cases c <;> cases d <;> rfl, show decide (ps.length = qs.length) = decide (qs.length = ps.length) by simp [eq_comm]]
theorem Ht.four {W w' : World} {ga g o : Nat} {x : Pk} {ks : List Pk} {t : TypeId} (h : Ht W w') (H0 : Has W ga (pkCells x) t) (r : Krow W g o ks) (hn : 0 < ks.length) :
    Ht W w' ∧ w'.cell? ⟨ga, 1, none⟩ = some (.bool x.cl) ∧ w'.cell? ⟨ga, 2, none⟩ = some x.v ∧ w'.cell? ⟨g, o + 1, none⟩ = some (.bool (pk ks 0).cl) ∧ w'.cell? ⟨g, o + 2, none⟩ = some (pk ks 0).v := by
  have K0 := H0.below h.below H0.lt
  have r' := r.below h.below (r.lt hn) (Nat.le_refl _)
  have a := r'.c1 0 hn
  have b := r'.c2 0 hn
  simp only [Nat.zero_mul, Nat.add_zero] at a b
  exact ⟨h, K0.cell 1 _ rfl, K0.cell 2 _ rfl, a, b⟩

set_option maxHeartbeats 2000000 in
theorem p_keys {v : Value} {ks : List Pk} {w : World} (h : Kl w v ks) (hm : Mkd ks) :
    Calls Tryz.prog 54 #[v] w fun e w' => e = .returned (.bool (fitN ks ks.length)) ∧ Below w.heap.size w w' := by
  have BK := Lib.hid (p_bareKeys h)
  have hs := h
  obtain ⟨ao, cap, rfl, hf, _⟩ := h
  obtain ⟨N, hN⟩ : ∃ N, ks.length = N := ⟨_, rfl⟩
  have f4 : N ≤ 4 := by rw [← hN]; exact hm.few
  rw [hN] at hf hs BK ⊢
  have HS := Lib.hid hs
  have HN := Lib.hid hN
  have HM := Lib.hid hm
  obtain ⟨B, hB⟩ : ∃ B, w.heap.size = B := ⟨_, rfl⟩
  have HB := Lib.hid hB
  clear hs hN hm hB hf
  have o0 : (N : Int) ≤ 32 := by omega
  go_enter Tryz.func54, Tryz.ntmps54
  go_wp2_with fail
  refine BK.out.mono ?_
  rintro e w1 ⟨vb, rfl, hob, hq1⟩
  have S1 := Lib.hid (hob.sl (by rw [barep_length, HN.out]; omega))
  have Q1 : Hid (Below B w w1) := Lib.hid (by rw [← HB.out]; exact hq1)
  have z1 : Hid (B ≤ w1.heap.size) := Lib.hid (by have := hq1.size; have := HB.out; omega)
  clear hob hq1 BK
  go_wp2_with fail
  refine (k_right S1.out).mono ?_
  rw [HM.out.right]
  rintro e w2 ⟨rfl, hq2⟩
  have Q2 := Lib.hid (Q1.out.trans (hq2.mono z1.out))
  have z2 : Hid (B ≤ w2.heap.size) := Lib.hid (by have := hq2.size; have := z1.out; omega)
  clear hq2 S1 Q1 z1
  go_wp2_with fail
  go_loopw [4, 16] (fun _ i wr => ∃ n : Nat, n ≤ N ∧ i = .int .i64 n ∧ fitN ks n = true ∧ Below B w wr) (fun _ i _ => N - (intOf i).toNat)
  case atStart => exact ⟨0, by omega, rfl, rfl, Q2.out⟩
  case round =>
    clear Q2 z2
    obtain ⟨n, hn, rfl, hst, hb⟩ := hrel
    have HST := Lib.hid hst
    have HBD := Lib.hid hb
    have sz : B ≤ wr.heap.size := by have := hb.size; have := HB.out; omega
    clear hst
    by_cases hlt : n < N
    · obtain ⟨g, o, e1, r0, l0⟩ := HS.out.row (by omega)
      have rr := r0.below hb (by have := r0.lt (by omega); have := HB.out; omega) (by have := HB.out; omega)
      subst e1
      have c0 := rr.c0 n (by omega)
      have c1 := rr.c1 n (by omega)
      have c2 := rr.c2 n (by omega)
      have c3 := rr.c3 n (by omega)
      have c4 := rr.c4 n (by omega)
      have c5 := rr.c5 n (by omega)
      have c6 := rr.c6 n (by omega)
      have c7 := rr.c7 n (by omega)
      have sx := rr.sl n (by omega)
      have s0 := rr.sl 0 (by omega)
      have ok := HM.out.okP (i := n) (by omega)
      have ne := (HM.out.pos (i := n) (by omega)).1
      obtain ⟨f, hf⟩ : ∃ f, fits (pk ks 0).cl (pk ks 0).ps (pk ks n).cl (pk ks n).ps = f := ⟨_, rfl⟩
      obtain ⟨x, ex⟩ : ∃ x, pk ks n = x := ⟨_, rfl⟩
      obtain ⟨V, hV⟩ : ∃ V, wr.alloc (.cells (pkCells x) 43) = V := ⟨_, rfl⟩
      have bV : Below wr.heap.size wr V := by rw [← hV]; exact (Below.refl _ _).alloc (Nat.le_refl _) _
      have KX : Has V wr.heap.size (pkCells x) 43 := by rw [← hV]; exact has_new rfl
      have rV := rr.below bV (rr.lt (by omega)) (Nat.le_refl _)
      rw [ex] at c0 c1 c2 c3 c4 c5 c6 c7 sx ok ne hf
      have FF := Lib.hid (by rw [← ex] at hf; exact hf)
      have EM : Hid (∀ w', Ht V w' → Calls Tryz.prog 85 #[.agg #[.bool x.cl, x.v]] w' fun e w'' => e = .returned (.bool false) ∧ Below w'.heap.size w' w'') := Lib.hid (fun w' h => by have := p_empty x.cl ((sx.below bV (Nat.le_refl _)).ht h); rw [decide_eq_false (by omega)] at this; exact this)
      have RT : Hid (∀ w', Ht V w' → Calls Tryz.prog 86 #[.agg #[.bool x.cl, x.v]] w' fun e w'' => e = .returned (.bool true) ∧ Below w'.heap.size w' w'') := Lib.hid (fun w' h => by have := p_right x.cl ((sx.below bV (Nat.le_refl _)).ht h); rw [ok] at this; exact this)
      have FT : Hid (∀ w', Ht V w' → Calls Tryz.prog 87 #[.agg #[.bool (pk ks 0).cl, (pk ks 0).v], .agg #[.bool x.cl, x.v]] w' fun e w'' => e = .returned (.bool f) ∧ Below w'.heap.size w' w'') := Lib.hid (fun w' h => by have := p_fits (pk ks 0).cl x.cl ((s0.below bV (Nat.le_refl _)).ht h) ((sx.below bV (Nat.le_refl _)).ht h); rw [hf] at this; exact this)
      have SS := Lib.hid (fun (w' : World) (h : Ht V w') => h.four KX rV (show 0 < ks.length by omega))
      have hx := sx.shape
      have h0 := s0.shape
      have HV := Lib.hid hV
      have o1 : (n : Int) < N := by omega
      have oz : (0 : Int) < N := by omega
      have oy : 0 < N := by omega
      have H0 : Hid (Ht V V) := Lib.hid (Ht.refl V)
      have BV : Hid (Below B w V) := Lib.hid (HBD.out.trans (bV.mono sz))
      have zV : Hid (B ≤ V.heap.size) := Lib.hid (by have := bV.size; omega)
      obtain ⟨xt, xcl, xv, xps, xh, xa, xb, xcc, xd⟩ := x
      obtain ⟨xo, xn, xc, e1⟩ := hx
      obtain ⟨y, ey⟩ : ∃ x, pk ks 0 = x := ⟨_, rfl⟩
      rw [ey] at h0 SS FT
      obtain ⟨yt, ycl, yv, yps, yh, ya, yb, ycc, yd⟩ := y
      obtain ⟨yo, yn, yc, e2⟩ := h0
      simp only at e1 e2
      subst e1 e2
      simp only at c0 c1 c2 c3 c4 c5 c6 c7
      clear rr r0 l0 hb sx s0 ok ne hf ex ey hV bV KX rV HS
      cases f
      · have EF := Lib.hid (fitN_off hlt FF.out)
        go_upto_region 6 with fail
        rw [HV.out]
        clear c0 c1 c2 c3 c4 c5 c6 c7
        go_region_held3 (fun w' => Ht V w' ∧ w'.cell? ⟨wr.heap.size, 1, none⟩ = some (.bool xcl) ∧ w'.cell? ⟨wr.heap.size, 2, none⟩ = some (.slice xo xn xc) ∧ w'.cell? ⟨g, o + 1, none⟩ = some (.bool ycl) ∧ w'.cell? ⟨g, o + 2, none⟩ = some (.slice yo yn yc))
          ((go_split_ands; first | exact SS.out _ H0.out.drew | exact SS.out _ (by assumption)))
          (first
            | (go_at_call 87; refine (FT.out _ h2).mono ?_; rintro e w3 ⟨rfl, hq3⟩; have h3 := Ht.call h2 hq3)
            | (go_at_call 86; refine (RT.out _ h1).mono ?_; rintro e w2' ⟨rfl, hq2⟩; have h2 := Ht.call h1 hq2)
            | (go_at_call 85; refine (EM.out _ H0.out.drew).mono ?_; rintro e w1' ⟨rfl, hq1⟩; have h1 := Ht.call H0.out.drew hq1))
        all_goals
          have R := Lib.hid (BV.out.trans (h3.below.mono zV.out))
          clear h1 h2 h3
          go_wp2
          go_ret
          exact ⟨by rw [EF.out]; rfl, by rw [HB.out]; exact R.out⟩
      · go_upto_region 6 with fail
        rw [HV.out]
        clear c0 c1 c2 c3 c4 c5 c6 c7
        go_region_held3 (fun w' => Ht V w' ∧ w'.cell? ⟨wr.heap.size, 1, none⟩ = some (.bool xcl) ∧ w'.cell? ⟨wr.heap.size, 2, none⟩ = some (.slice xo xn xc) ∧ w'.cell? ⟨g, o + 1, none⟩ = some (.bool ycl) ∧ w'.cell? ⟨g, o + 2, none⟩ = some (.slice yo yn yc))
          ((go_split_ands; first | exact SS.out _ H0.out.drew | exact SS.out _ (by assumption)))
          (first
            | (go_at_call 87; refine (FT.out _ h2).mono ?_; rintro e w3 ⟨rfl, hq3⟩; have h3 := Ht.call h2 hq3)
            | (go_at_call 86; refine (RT.out _ h1).mono ?_; rintro e w2' ⟨rfl, hq2⟩; have h2 := Ht.call h1 hq2)
            | (go_at_call 85; refine (EM.out _ H0.out.drew).mono ?_; rintro e w1' ⟨rfl, hq1⟩; have h1 := Ht.call H0.out.drew hq1))
        all_goals
          have R := Lib.hid (BV.out.trans (h3.below.mono zV.out))
          clear h1 h2 h3
          go_wp2
          go_roundw
          case rel => exact ⟨n + 1, by omega, by go_num, by unfold fitN; rw [HST.out, FF.out]; rfl, R.out⟩
          case measure => simp [intOf]; omega
    · obtain rfl : n = N := by omega
      have o1 : (n : Int) ≤ n := by omega
      clear hb
      go_wp2
      go_ret
      exact ⟨by rw [HST.out]; rfl, by rw [HB.out]; exact HBD.out⟩

end Go.Proofs.YtglbfpjjnboeaaaGreat

namespace Go.Proofs.YtglbfpjjnboeaaaGreat
open Go.RowKit
open M

/-- The first n paths are some, right, and fit the first. -/
def allN (ks : List Pk) : Nat → Bool
  | 0 => true
  | n + 1 => allN ks n && (!decide ((pk ks n).ps.length = 0) && okP (pk ks n).cl (pk ks n).ps && fits (pk ks 0).cl (pk ks 0).ps (pk ks n).cl (pk ks n).ps)
def keysOk (ks : List Pk) : Bool := right (barep ks) && allN ks ks.length
theorem allN_off {ks : List Pk} {n m : Nat} (hm : n + 1 ≤ m) (h : allN ks (n + 1) = false) : allN ks m = false := by
  induction m with
  | zero => omega
  | succ m ih =>
    by_cases e : n = m
    · subst e; exact h
    · have := ih (by omega)
      show (allN ks m && _) = false
      rw [this]
      rfl

set_option maxRecDepth 100000 in
set_option maxHeartbeats 2000000 in
theorem p_keysG {v : Value} {ks : List Pk} {w : World} (h : Kl w v ks) :
    Calls Tryz.prog 54 #[v] w fun e w' => e = .returned (.bool (keysOk ks)) ∧ Below w.heap.size w w' := by
  have BK := Lib.hid (p_bareKeys h)
  have hs := h
  obtain ⟨ao, cap, rfl, hf, _⟩ := h
  obtain ⟨N, hN⟩ : ∃ N, ks.length = N := ⟨_, rfl⟩
  rw [hN] at hf hs BK ⊢
  have HS := Lib.hid hs
  have HN := Lib.hid hN
  have EK : Hid (keysOk ks = (right (barep ks) && allN ks N)) := Lib.hid (by rw [← hN]; rfl)
  obtain ⟨K, hK⟩ : ∃ K, keysOk ks = K := ⟨_, rfl⟩
  rw [hK] at EK ⊢
  obtain ⟨B, hB⟩ : ∃ B, w.heap.size = B := ⟨_, rfl⟩
  have HB := Lib.hid hB
  by_cases o00 : 32 < N
  · have e : K = false := by rw [EK.out]; unfold right; rw [barep_length, HN.out]; simp; intro _ h; omega
    subst e
    have o0 : (32 : Int) < N := by omega
    clear BK hs hN hB hK
    go_enter Tryz.func54, Tryz.ntmps54
    go_wp2
    go_ret
    exact ⟨rfl, by rw [HB.out]; exact Below.refl _ _⟩
  have o0 : (N : Int) ≤ 32 := by omega
  clear hs hN hB hf hK
  go_enter Tryz.func54, Tryz.ntmps54
  go_wp2_with fail
  refine BK.out.mono ?_
  rintro e w1 ⟨vb, rfl, hob, hq1⟩
  have S1 := Lib.hid (hob.sl (by rw [barep_length, HN.out]; omega))
  have Q1 : Hid (Below B w w1) := Lib.hid (by rw [← HB.out]; exact hq1)
  have z1 : Hid (B ≤ w1.heap.size) := Lib.hid (by have := hq1.size; have := HB.out; omega)
  clear hob hq1 BK
  go_wp2_with fail
  refine (k_right S1.out).mono ?_
  obtain ⟨b, hb⟩ : ∃ b, right (barep ks) = b := ⟨_, rfl⟩
  rw [hb] at EK ⊢
  clear hb
  rintro e w2 ⟨rfl, hq2⟩
  have Q2 := Lib.hid (Q1.out.trans (hq2.mono z1.out))
  have z2 : Hid (B ≤ w2.heap.size) := Lib.hid (by have := hq2.size; have := z1.out; omega)
  clear hq2 S1 Q1 z1
  cases b
  · have e : K = false := by rw [EK.out]; rfl
    subst e
    go_wp2
    go_ret
    exact ⟨rfl, by rw [HB.out]; exact Q2.out⟩
  have EK : Hid (K = allN ks N) := Lib.hid (by rw [EK.out]; rfl)
  go_wp2_with fail
  go_loopw [4, 16] (fun _ i wr => ∃ n : Nat, n ≤ N ∧ i = .int .i64 n ∧ allN ks n = true ∧ Below B w wr) (fun _ i _ => N - (intOf i).toNat)
  case atStart => exact ⟨0, by omega, rfl, rfl, Q2.out⟩
  case round =>
    clear Q2 z2
    obtain ⟨n, hn, rfl, hst, hb⟩ := hrel
    have HST := Lib.hid hst
    have HBD := Lib.hid hb
    have sz : B ≤ wr.heap.size := by have := hb.size; have := HB.out; omega
    clear hst
    by_cases hlt : n < N
    · obtain ⟨g, o, e1, r0, l0⟩ := HS.out.row (by omega)
      have rr := r0.below hb (by have := r0.lt (by omega); have := HB.out; omega) (by have := HB.out; omega)
      subst e1
      have c0 := rr.c0 n (by omega)
      have c1 := rr.c1 n (by omega)
      have c2 := rr.c2 n (by omega)
      have c3 := rr.c3 n (by omega)
      have c4 := rr.c4 n (by omega)
      have c5 := rr.c5 n (by omega)
      have c6 := rr.c6 n (by omega)
      have c7 := rr.c7 n (by omega)
      have sx := rr.sl n (by omega)
      have s0 := rr.sl 0 (by omega)
      obtain ⟨f, hf⟩ : ∃ f, fits (pk ks 0).cl (pk ks 0).ps (pk ks n).cl (pk ks n).ps = f := ⟨_, rfl⟩
      obtain ⟨x, ex⟩ : ∃ x, pk ks n = x := ⟨_, rfl⟩
      obtain ⟨V, hV⟩ : ∃ V, wr.alloc (.cells (pkCells x) 43) = V := ⟨_, rfl⟩
      have bV : Below wr.heap.size wr V := by rw [← hV]; exact (Below.refl _ _).alloc (Nat.le_refl _) _
      have KX : Has V wr.heap.size (pkCells x) 43 := by rw [← hV]; exact has_new rfl
      have rV := rr.below bV (rr.lt (by omega)) (Nat.le_refl _)
      rw [ex] at c0 c1 c2 c3 c4 c5 c6 c7 sx hf
      obtain ⟨ok, hok⟩ : ∃ b, okP x.cl x.ps = b := ⟨_, rfl⟩
      obtain ⟨em, hem⟩ : ∃ b, decide (x.ps.length = 0) = b := ⟨_, rfl⟩
      have AN : Hid (allN ks (n + 1) = (!em && ok && f)) := Lib.hid (by unfold allN; rw [HST.out, ex, hem, hok, hf]; rfl)
      have r' := fun z => rV.later (by omega) z
      have EM : Hid (∀ z : Later V, Calls Tryz.prog 85 #[.agg #[.bool x.cl, x.v]] z.to fun e w'' => e = .returned (.bool em) ∧ Below z.to.heap.size z.to w'') := Lib.hid (fun z => by have := p_empty x.cl ((sx.below bV (Nat.le_refl _)).later z); rw [hem] at this; exact this)
      have RT : Hid (∀ z : Later V, Calls Tryz.prog 86 #[.agg #[.bool x.cl, x.v]] z.to fun e w'' => e = .returned (.bool ok) ∧ Below z.to.heap.size z.to w'') := Lib.hid (fun z => by have := p_right x.cl ((sx.below bV (Nat.le_refl _)).later z); rw [hok] at this; exact this)
      have FT : Hid (∀ z : Later V, Calls Tryz.prog 87 #[.agg #[.bool (pk ks 0).cl, (pk ks 0).v], .agg #[.bool x.cl, x.v]] z.to fun e w'' => e = .returned (.bool f) ∧ Below z.to.heap.size z.to w'') := Lib.hid (fun z => by have := p_fits (pk ks 0).cl x.cl ((s0.below bV (Nat.le_refl _)).later z) ((sx.below bV (Nat.le_refl _)).later z); rw [hf] at this; exact this)
      have k1 := Later.read KX 1 _ rfl
      have k2 := Later.read KX 2 _ rfl
      have b1 := fun z => (r' z).c1 0 (by omega)
      have b2 := fun z => (r' z).c2 0 (by omega)
      simp only [Nat.zero_mul, Nat.add_zero] at b1 b2
      have hx := sx.shape
      have h0 := s0.shape
      have HV := Lib.hid hV
      have o1 : (n : Int) < N := by omega
      have oz : (0 : Int) < N := by omega
      have oy : 0 < N := by omega
      have BV : Hid (Below B w V) := Lib.hid (HBD.out.trans (bV.mono sz))
      have zV : Hid (B ≤ V.heap.size) := Lib.hid (by have := bV.size; omega)
      obtain ⟨xt, xcl, xv, xps, xh, xa, xb, xcc, xd⟩ := x
      obtain ⟨xo, xn, xc, e1⟩ := hx
      obtain ⟨y, ey⟩ : ∃ x, pk ks 0 = x := ⟨_, rfl⟩
      rw [ey] at h0 FT b1 b2
      obtain ⟨yt, ycl, yv, yps, yh, ya, yb, ycc, yd⟩ := y
      obtain ⟨yo, yn, yc, e2⟩ := h0
      simp only at e1 e2
      subst e1 e2
      simp only at c0 c1 c2 c3 c4 c5 c6 c7
      clear r' rr rV r0 l0 hb sx s0 hok hem hf ex ey hV bV KX HS
      cases em
      case true =>
        have EF : Hid (K = false) := Lib.hid (by rw [EK.out]; exact allN_off (n := n) (by omega) (by rw [AN.out]; rfl))
        go_upto_region 6 with fail
        rw [HV.out]
        clear c0 c1 c2 c3 c4 c5 c6 c7
        refine wp_region_class (C := fun w' => ∃ z : Later V, w' = z.to) (by kernel_rfl) (by kernel_rfl) ⟨⟨_, below_drew (Below.refl _ _)⟩, rfl⟩ ?_
        repeat (go_big_quiet_step (first | (go_at_call 85; exact Later.calls (EM.out _)) | (go_at_call 86; exact Later.calls (RT.out _)) | (go_at_call 87; exact Later.calls (FT.out _))))
        refine wpQuiet_nil ?_
        rintro _ ⟨z, rfl⟩
        have R := Lib.hid (BV.out.trans (z.below.mono zV.out))
        go_wp2
        go_ret
        exact ⟨by rw [EF.out]; rfl, by rw [HB.out]; exact R.out⟩
      case false =>
       cases ok
       case false =>
        have EF : Hid (K = false) := Lib.hid (by rw [EK.out]; exact allN_off (n := n) (by omega) (by rw [AN.out]; rfl))
        go_upto_region 6 with fail
        rw [HV.out]
        clear c0 c1 c2 c3 c4 c5 c6 c7
        refine wp_region_class (C := fun w' => ∃ z : Later V, w' = z.to) (by kernel_rfl) (by kernel_rfl) ⟨⟨_, below_drew (Below.refl _ _)⟩, rfl⟩ ?_
        repeat (go_big_quiet_step (first | (go_at_call 85; exact Later.calls (EM.out _)) | (go_at_call 86; exact Later.calls (RT.out _)) | (go_at_call 87; exact Later.calls (FT.out _))))
        refine wpQuiet_nil ?_
        rintro _ ⟨z, rfl⟩
        have R := Lib.hid (BV.out.trans (z.below.mono zV.out))
        go_wp2
        go_ret
        exact ⟨by rw [EF.out]; rfl, by rw [HB.out]; exact R.out⟩
       case true =>
        cases f
        case false =>
          have EF : Hid (K = false) := Lib.hid (by rw [EK.out]; exact allN_off (n := n) (by omega) (by rw [AN.out]; rfl))
          go_upto_region 6 with fail
          rw [HV.out]
          clear c0 c1 c2 c3 c4 c5 c6 c7
          refine wp_region_class (C := fun w' => ∃ z : Later V, w' = z.to) (by kernel_rfl) (by kernel_rfl) ⟨⟨_, below_drew (Below.refl _ _)⟩, rfl⟩ ?_
          repeat (go_big_quiet_step (first | (go_at_call 85; exact Later.calls (EM.out _)) | (go_at_call 86; exact Later.calls (RT.out _)) | (go_at_call 87; exact Later.calls (FT.out _))))
          refine wpQuiet_nil ?_
          rintro _ ⟨z, rfl⟩
          have R := Lib.hid (BV.out.trans (z.below.mono zV.out))
          go_wp2
          go_ret
          exact ⟨by rw [EF.out]; rfl, by rw [HB.out]; exact R.out⟩
        case true =>
          go_upto_region 6 with fail
          rw [HV.out]
          clear c0 c1 c2 c3 c4 c5 c6 c7
          refine wp_region_class (C := fun w' => ∃ z : Later V, w' = z.to) (by kernel_rfl) (by kernel_rfl) ⟨⟨_, below_drew (Below.refl _ _)⟩, rfl⟩ ?_
          repeat (go_big_quiet_step (first | (go_at_call 85; exact Later.calls (EM.out _)) | (go_at_call 86; exact Later.calls (RT.out _)) | (go_at_call 87; exact Later.calls (FT.out _))))
          refine wpQuiet_nil ?_
          rintro _ ⟨z, rfl⟩
          have R := Lib.hid (BV.out.trans (z.below.mono zV.out))
          obtain ⟨Y, hY⟩ : ∃ Y, z.to = Y := ⟨_, rfl⟩
          rw [hY] at R ⊢
          clear hY k1 k2 b1 b2
          go_wp2
          go_roundw
          case rel => exact ⟨n + 1, by omega, by go_num, by rw [AN.out]; rfl, R.out⟩
          case measure => simp [intOf]; omega
    · obtain rfl : n = N := by omega
      have o1 : (n : Int) ≤ n := by omega
      clear hb
      go_wp2
      go_ret
      exact ⟨by rw [EK.out, HST.out]; rfl, by rw [HB.out]; exact HBD.out⟩

end Go.Proofs.YtglbfpjjnboeaaaGreat

namespace Go.Proofs.YtglbfpjjnboeaaaGreat
namespace M

def plc (p : Pt) : Pt := ⟨place p.x, place p.y⟩
theorem plc_plc (p : Pt) : plc (plc p) = plc p := by simp [plc, place_place]
/-- How long the way between two places is. -/
def longP (a b : Pt) : Int := hyp (b.x - a.x) (b.y - a.y)
def sidesN (c : Bool) (n : Nat) : Nat := if n < 2 then 0 else if c = true then n else n - 1
theorem sidesN_le (c : Bool) (n : Nat) : sidesN c n ≤ n := by unfold sidesN; split <;> (try split) <;> omega
theorem sidesN_few (c : Bool) {n : Nat} (h : n < 2) : sidesN c n = 0 := by unfold sidesN; rw [if_pos h]
theorem sidesN_closed {n : Nat} (h : ¬ n < 2) : sidesN true n = n := by unfold sidesN; rw [if_neg h, if_pos rfl]
theorem sidesN_open {n : Nat} (h : ¬ n < 2) : sidesN false n = n - 1 := by unfold sidesN; rw [if_neg h, if_neg (by simp)]
/-- The number of the place behind place i, of n. -/
def nxt (n i : Nat) : Nat := if i + 1 = n then 0 else i + 1
theorem nxt_last {n i : Nat} (h : i + 1 = n) : nxt n i = 0 := if_pos h
theorem nxt_in {n i : Nat} (h : ¬ i + 1 = n) : nxt n i = i + 1 := if_neg h
theorem nxt_lt {n i : Nat} (h : i < n) : nxt n i < n := by unfold nxt; split <;> omega
theorem nxt_mod {n i : Nat} (h : i < n) : Int.tmod ((i : Int) + 1) (n : Int) = (nxt n i : Nat) := by
  have e : Int.tmod ((i : Int) + 1) (n : Int) = (((i + 1) % n : Nat) : Int) := by
    rw [Int.tmod_eq_emod_of_nonneg (by omega)]
    simp
  rw [e]
  by_cases h1 : i + 1 = n
  · rw [nxt_last h1, h1, Nat.mod_self]
  · rw [nxt_in h1, Nat.mod_eq_of_lt (by omega)]
def sa (ps : List Pt) (i : Nat) : Pt := plc (pt ps i)
def sb (ps : List Pt) (i : Nat) : Pt := plc (pt ps (nxt ps.length i))
def sideL (ps : List Pt) (i : Nat) : Int := longP (sa ps i) (sb ps i)
theorem longP_lo (a b : Pt) : 0 ≤ longP a b := hyp_lo _ _
theorem longP_hi (a b : Pt) : longP a b ≤ 1518500249 := hyp_hi _ _
theorem sideL_lo (ps : List Pt) (i : Nat) : 0 ≤ sideL ps i := longP_lo _ _
theorem sideL_hi (ps : List Pt) (i : Nat) : sideL ps i ≤ 1518500249 := longP_hi _ _
/-- How long the first n sides are. -/
def lenN (ps : List Pt) : Nat → Int
  | 0 => 0
  | n + 1 => add (lenN ps n) (sideL ps n)
theorem lenN_zero (ps : List Pt) : lenN ps 0 = 0 := rfl
theorem lenN_step (ps : List Pt) (n : Nat) : add (lenN ps n) (sideL ps n) = lenN ps (n + 1) := rfl
theorem lenN_in (ps : List Pt) : ∀ n, 0 ≤ lenN ps n ∧ lenN ps n ≤ 1099511627776
  | 0 => by simp [lenN]
  | n + 1 => by
    have ih := lenN_in ps n
    have h0 := sideL_lo ps n
    have h1 := sideL_hi ps n
    rw [← lenN_step]
    unfold add
    rw [hold_in (a := lenN ps n) (by omega) (by omega), hold_in (a := sideL ps n) (by omega) (by omega)]
    refine ⟨?_, hold_hi _⟩
    have := hold_mono (a := 0) (b := lenN ps n + sideL ps n) (by omega)
    rwa [hold_in (a := 0) (by omega) (by omega)] at this
theorem add_near {s l : Int} (s0 : 0 ≤ s) (s1 : s ≤ 1099511627776) (l0 : 0 ≤ l) (l1 : l ≤ 1518500249) : add s l = hold (s + l) := by
  unfold add
  rw [hold_in (a := s) (by omega) (by omega), hold_in (a := l) (by omega) (by omega)]
/-- Below Great a held sum passes a number just where the sum does. -/
theorem add_past {s l f : Int} (s0 : 0 ≤ s) (s1 : s ≤ 1099511627776) (l0 : 0 ≤ l) (l1 : l ≤ 1518500249) (hf : f < 1099511627776) : f < add s l ↔ f < s + l := by
  rw [add_near s0 s1 l0 l1]
  by_cases h : s + l ≤ 1099511627776
  · rw [hold_in (by omega) h]
  · rw [hold_ge (by omega)]; omega
def lengthL (c : Bool) (ps : List Pt) : Int := lenN ps (sidesN c ps.length)
/-- The place that lies d of l on the way from a to b. -/
def onP (a b : Pt) (d l : Int) : Pt := if hold d ≤ 0 then plc a else if l ≤ hold d then plc b else ⟨mid (place a.x) (place b.x) (dv (hold d) l), mid (place a.y) (place b.y) (dv (hold d) l)⟩
theorem onP_a {a b : Pt} {d l : Int} (h : hold d ≤ 0) : onP a b d l = plc a := if_pos h
theorem onP_b {a b : Pt} {d l : Int} (h : ¬ hold d ≤ 0) (h2 : l ≤ hold d) : onP a b d l = plc b := by unfold onP; rw [if_neg h, if_pos h2]
theorem onP_mid {a b : Pt} {d l : Int} (h : ¬ hold d ≤ 0) (h2 : ¬ l ≤ hold d) : onP a b d l = ⟨mid (place a.x) (place b.x) (dv (hold d) l), mid (place a.y) (place b.y) (dv (hold d) l)⟩ := by unfold onP; rw [if_neg h, if_neg h2]
/-- Whether side i has a piece between f and t. -/
def hit (ps : List Pt) (f t : Int) (i : Nat) : Prop := 0 < sideL ps i ∧ f < lenN ps i + sideL ps i ∧ lenN ps i < t
instance (ps : List Pt) (f t : Int) (i : Nat) : Decidable (hit ps f t i) := by unfold hit; infer_instance
def fromP (ps : List Pt) (f : Int) (i : Nat) : Pt := onP (sa ps i) (sb ps i) (f - lenN ps i) (sideL ps i)
/-- What the first n sides have between f and t. -/
def cutN (ps : List Pt) (f t : Int) : Nat → List Pt
  | 0 => []
  | n + 1 => if hit ps f t n then (if (cutN ps f t n).length = 0 then [fromP ps f n] else cutN ps f t n) ++ [fromP ps t n] else cutN ps f t n
theorem cutN_zero (ps : List Pt) (f t : Int) : cutN ps f t 0 = [] := rfl
theorem cutN_off {ps : List Pt} {f t : Int} {n : Nat} (h : ¬ hit ps f t n) : cutN ps f t (n + 1) = cutN ps f t n := by rw [cutN, if_neg h]
theorem cutN_first {ps : List Pt} {f t : Int} {n : Nat} (h : hit ps f t n) (h0 : (cutN ps f t n).length = 0) : cutN ps f t (n + 1) = [fromP ps f n] ++ [fromP ps t n] := by rw [cutN, if_pos h, if_pos h0]
theorem cutN_more {ps : List Pt} {f t : Int} {n : Nat} (h : hit ps f t n) (h0 : ¬ (cutN ps f t n).length = 0) : cutN ps f t (n + 1) = cutN ps f t n ++ [fromP ps t n] := by rw [cutN, if_pos h, if_neg h0]
theorem cutN_length (ps : List Pt) (f t : Int) : ∀ n, (cutN ps f t n).length ≤ n + 1
  | 0 => by simp [cutN]
  | n + 1 => by
    have ih := cutN_length ps f t n
    by_cases h : hit ps f t n
    · by_cases h0 : (cutN ps f t n).length = 0
      · rw [cutN_first h h0]; simp
      · rw [cutN_more h h0]; simp; omega
    · rw [cutN_off h]; omega
def cutL (c : Bool) (ps : List Pt) (f t : Int) : List Pt := if hold t ≤ hold f then [] else cutN ps (hold f) (hold t) (sidesN c ps.length)
theorem cutL_no {c : Bool} {ps : List Pt} {f t : Int} (h : hold t ≤ hold f) : cutL c ps f t = [] := if_pos h
theorem cutL_yes {c : Bool} {ps : List Pt} {f t : Int} (h : ¬ hold t ≤ hold f) : cutL c ps f t = cutN ps (hold f) (hold t) (sidesN c ps.length) := if_neg h
theorem cutL_length (c : Bool) (ps : List Pt) (f t : Int) : (cutL c ps f t).length ≤ ps.length + 1 := by
  unfold cutL
  split
  · simp
  · have := cutN_length ps (hold f) (hold t) (sidesN c ps.length)
    have := sidesN_le c ps.length
    omega

end M
end Go.Proofs.YtglbfpjjnboeaaaGreat

namespace Go.Proofs.YtglbfpjjnboeaaaGreat
namespace M

/-- Number i of a list. -/
def nm (ds : List Int) (i : Nat) : Int := ds.getD i 0
theorem nm_cons (d : Int) (ds : List Int) (i : Nat) : nm (d :: ds) (i + 1) = nm ds i := by simp [nm]
theorem nm_zero (d : Int) (ds : List Int) : nm (d :: ds) 0 = d := by simp [nm]
theorem nm_left {ds : List Int} {d : Int} {i : Nat} (h : i < ds.length) : nm (ds ++ [d]) i = nm ds i := by unfold nm; simp [List.getD, List.getElem?_append_left h]
theorem nm_last (ds : List Int) (d : Int) : nm (ds ++ [d]) ds.length = d := by unfold nm; simp [List.getD]
/-- Whether a dash, or a gap, may be so long. -/
def okN (d : Int) : Prop := 65536 ≤ d ∧ d ≤ 67108864
instance (d : Int) : Decidable (okN d) := by unfold okN; infer_instance
def okA (ds : List Int) : Prop := ∀ i, i < ds.length → okN (nm ds i)
instance (ds : List Int) : Decidable (okA ds) := by unfold okA; infer_instance
/-- Right. -/
def okD (ds : List Int) : Bool := decide (ds.length ≤ 8 ∧ okA ds)
theorem okD_many {ds : List Int} (h : 8 < ds.length) : okD ds = false := by unfold okD; rw [decide_eq_false]; omega
theorem okD_bad {ds : List Int} {i : Nat} (hi : i < ds.length) (h : ¬ okN (nm ds i)) : okD ds = false := by
  unfold okD
  rw [decide_eq_false]
  exact fun e => h (e.2 i hi)
theorem okD_yes {ds : List Int} (h8 : ds.length ≤ 8) (h : ∀ i, i < ds.length → okN (nm ds i)) : okD ds = true := by
  unfold okD
  rw [decide_eq_true]
  exact ⟨h8, h⟩
theorem okD_all {ds : List Int} (h : ∀ i, i < ds.length → okN (nm ds i)) : okD ds = decide ((ds.length : Int) ≤ 8) := by
  by_cases h8 : ds.length ≤ 8
  · rw [okD_yes h8 h, decide_eq_true]; omega
  · rw [okD_many (by omega), decide_eq_false]; omega
theorem okD_few {ds : List Int} (h : okD ds = true) : ds.length ≤ 8 ∧ okA ds := by
  unfold okD at h
  simpa using h

/-- Number i, gone through round and round. -/
def tn (ds : List Int) (i : Nat) : Int := nm ds (i % ds.length)
/-- Where dash or gap k begins. -/
def mk (ds : List Int) : Nat → Int
  | 0 => 0
  | k + 1 => mk ds k + tn ds k
theorem mk_zero (ds : List Int) : mk ds 0 = 0 := rfl
theorem mk_step (ds : List Int) (k : Nat) : mk ds (k + 1) = mk ds k + tn ds k := rfl
theorem tn_in {ds : List Int} (h : okD ds = true) (h0 : 0 < ds.length) (i : Nat) : 65536 ≤ tn ds i ∧ tn ds i ≤ 67108864 := (okD_few h).2 _ (Nat.mod_lt _ h0)
theorem mk_in {ds : List Int} (h : okD ds = true) (h0 : 0 < ds.length) : ∀ k : Nat, 0 ≤ mk ds k ∧ mk ds k ≤ k * 67108864
  | 0 => by simp [mk]
  | k + 1 => by
    have ih := mk_in h h0 k
    have t := tn_in h h0 k
    rw [mk_step]
    omega
theorem mk_up {ds : List Int} (h : okD ds = true) (h0 : 0 < ds.length) {i : Nat} : ∀ {j : Nat}, i ≤ j → mk ds i ≤ mk ds j
  | 0, hij => by
    obtain rfl : i = 0 := by omega
    exact Int.le_refl _
  | j + 1, hij => by
    by_cases e : i = j + 1
    · rw [e]; exact Int.le_refl _
    · have ih := mk_up h h0 (i := i) (j := j) (by omega)
      have t := tn_in h h0 j
      rw [mk_step]
      omega
theorem add_mk {ds : List Int} (h : okD ds = true) (h0 : 0 < ds.length) {k : Nat} (hk : k ≤ 200) : add (mk ds k) (tn ds k) = mk ds (k + 1) := by
  have a := mk_in h h0 k
  have t := tn_in h h0 k
  unfold add
  rw [hold_in (a := mk ds k) (by omega) (by omega), hold_in (a := tn ds k) (by omega) (by omega), hold_in (by omega) (by omega), mk_step]
theorem tn_mod {ds : List Int} (i : Nat) : Int.tmod (i : Int) (ds.length : Int) = ((i % ds.length : Nat) : Int) := by
  rw [Int.tmod_eq_emod_of_nonneg (by omega)]
  simp
/-- Dash n. -/
def dashP (c : Bool) (ps : List Pt) (ds : List Int) (n : Nat) : List Pt := cutL c ps (mk ds (2 * n)) (mk ds (2 * n + 1))
theorem dashP_length (c : Bool) (ps : List Pt) (ds : List Int) (n : Nat) : (dashP c ps ds n).length ≤ ps.length + 1 := cutL_length _ _ _ _
/-- The first n dashes. -/
def dashN (c : Bool) (ps : List Pt) (ds : List Int) : Nat → List (Bool × List Pt)
  | 0 => []
  | n + 1 => if mk ds (2 * n) < lengthL c ps ∧ 2 ≤ (dashP c ps ds n).length then dashN c ps ds n ++ [(false, dashP c ps ds n)] else dashN c ps ds n
theorem dashN_zero (c : Bool) (ps : List Pt) (ds : List Int) : dashN c ps ds 0 = [] := rfl
theorem dashN_yes {c : Bool} {ps : List Pt} {ds : List Int} {n : Nat} (h : mk ds (2 * n) < lengthL c ps) (h2 : 2 ≤ (dashP c ps ds n).length) : dashN c ps ds (n + 1) = dashN c ps ds n ++ [(false, dashP c ps ds n)] := if_pos ⟨h, h2⟩
theorem dashN_no {c : Bool} {ps : List Pt} {ds : List Int} {n : Nat} (h2 : ¬ 2 ≤ (dashP c ps ds n).length) : dashN c ps ds (n + 1) = dashN c ps ds n := if_neg fun h => h2 h.2
theorem dashN_off {c : Bool} {ps : List Pt} {ds : List Int} {n : Nat} (h : ¬ mk ds (2 * n) < lengthL c ps) : dashN c ps ds (n + 1) = dashN c ps ds n := if_neg fun e => h e.1
theorem dashN_length (c : Bool) (ps : List Pt) (ds : List Int) : ∀ n, (dashN c ps ds n).length ≤ n
  | 0 => by simp [dashN]
  | n + 1 => by
    have ih := dashN_length c ps ds n
    rw [dashN]
    split
    · simp; omega
    · omega
/-- From the first dash on that would begin at the line's end or behind it nothing comes. -/
theorem dashN_end {c : Bool} {ps : List Pt} {ds : List Int} (h : okD ds = true) (h0 : 0 < ds.length) {n : Nat} (hn : lengthL c ps ≤ mk ds (2 * n)) : ∀ {m : Nat}, n ≤ m → dashN c ps ds m = dashN c ps ds n
  | 0, hm => by
    obtain rfl : n = 0 := by omega
    rfl
  | m + 1, hm => by
    by_cases e : n = m + 1
    · rw [e]
    · have ih := dashN_end h h0 hn (m := m) (by omega)
      have u := mk_up h h0 (i := 2 * n) (j := 2 * m) (by omega)
      rw [dashN_off (by omega), ih]
/-- Of. -/
def dashL (c : Bool) (ps : List Pt) (ds : List Int) : List (Bool × List Pt) := if ds.length = 0 ∨ okD ds = false then [(c, ps)] else dashN c ps ds 64
theorem dashL_none {c : Bool} {ps : List Pt} {ds : List Int} (h : ds.length = 0) : dashL c ps ds = [(c, ps)] := if_pos (Or.inl h)
theorem dashL_bad {c : Bool} {ps : List Pt} {ds : List Int} (h : okD ds = false) : dashL c ps ds = [(c, ps)] := if_pos (Or.inr h)
theorem dashL_some {c : Bool} {ps : List Pt} {ds : List Int} (h0 : 0 < ds.length) (h : okD ds = true) : dashL c ps ds = dashN c ps ds 64 := if_neg fun e => by rcases e with e | e; omega; rw [h] at e; cases e
theorem dashL_length (c : Bool) (ps : List Pt) (ds : List Int) : (dashL c ps ds).length ≤ 64 := by
  unfold dashL
  split
  · simp
  · exact dashN_length _ _ _ _

end M
end Go.Proofs.YtglbfpjjnboeaaaGreat

namespace Go.Proofs.YtglbfpjjnboeaaaGreat
open Go Go.RowKit
open M

theorem and_quad (c : Int) : bits .and .i64 c 262143 = c % 262144 := by
  show IntKind.i64.wrap ((BitVec.ofInt 64 c &&& BitVec.ofInt 64 (262143 : Int)).toNat : Int) = _
  have e0 : (BitVec.ofInt 64 (262143 : Int)).toNat = 262143 := by decide
  have e1 : (BitVec.ofInt 64 c).toNat = (c % 18446744073709551616).toNat := by rw [BitVec.toNat_ofInt]; rfl
  have e2 : ∀ n : Nat, n &&& 262143 = n % 262144 := fun n => Nat.and_two_pow_sub_one_eq_mod n 18
  rw [BitVec.toNat_and, e0, e1, e2, IntKind.wrap_i64]
  omega
/-- The slice's value v holds just these numbers. -/
def Isl (w : World) (v : Value) (ds : List Int) : Prop := ∃ ao cap, v = .slice ao ds.length cap ∧ ds.length ≤ 17592186044416 ∧ (0 < ds.length → ∃ g o, ao = some ⟨g, o, none⟩ ∧ ∀ i, i < ds.length → w.cell? ⟨g, o + i, none⟩ = some (.int .i64 (nm ds i)))
theorem Isl.few {w : World} {v : Value} {ds : List Int} (h : Isl w v ds) : ds.length ≤ 17592186044416 := by
  obtain ⟨_, _, _, h, _⟩ := h
  exact h
theorem Isl.slice {w : World} {v : Value} {ds : List Int} (h : Isl w v ds) : ∃ ao cap, v = .slice ao ds.length cap := by
  obtain ⟨ao, cap, h, _⟩ := h
  exact ⟨ao, cap, h⟩
theorem Isl.blocks {w w' : World} {v : Value} {ds : List Int} (h : Isl w v ds) (hb : ∀ k, k < w.heap.size → v.ownBlock = some k → w'.heap[k]? = w.heap[k]?) : Isl w' v ds := by
  obtain ⟨ao, cap, rfl, hf, hr⟩ := h
  refine ⟨ao, cap, rfl, hf, fun h0 => ?_⟩
  obtain ⟨g, o, rfl, hr'⟩ := hr h0
  exact ⟨g, o, rfl, fun i hi => (World.cell?_of_block (a := ⟨g, _, _⟩) (hb g (World.block_lt_of_cell? w _ (hr' 0 h0)) rfl)).trans (hr' i hi)⟩
theorem Isl.below {w w' : World} {v : Value} {ds : List Int} (h : Isl w v ds) (hb : Below w.heap.size w w') : Isl w' v ds := h.blocks fun k hk _ => hb.block k hk
theorem Isl.alloc {w : World} {v : Value} {ds : List Int} (h : Isl w v ds) (o : Obj) : Isl (w.alloc o) v ds := h.blocks fun k hk _ => (MapKept.heap_alloc w o).2 k hk
theorem Isl.at {w : World} {ao : Option Addr} {N cap : Nat} {ds : List Int} (h : Isl w (.slice ao N cap) ds) (h0 : 0 < N) : ds.length = N ∧ ∃ g o, ao = some ⟨g, o, none⟩ ∧ ∀ i, i < N → w.cell? ⟨g, o + i, none⟩ = some (.int .i64 (nm ds i)) := by
  obtain ⟨ao', cap', e, hf, hr⟩ := h
  simp only [Value.slice.injEq] at e
  obtain ⟨rfl, rfl, rfl⟩ := e
  exact ⟨rfl, hr h0⟩
theorem isl_nil (w : World) (ao : Option Addr) (cap : Nat) : Isl w (.slice ao 0 cap) [] := ⟨ao, cap, rfl, by simp, fun h => by simp at h⟩
theorem isl_lit {w : World} {g n c : Nat} {ds : List Int} {cs : Array Value} {t : TypeId} (hn : ds.length = n) (hf : n ≤ 17592186044416) (h : Has w g cs t) (hc : cs.toList = ds.map (Value.int .i64)) : Isl w (.slice (some ⟨g, 0, none⟩) n c) ds := by
  subst hn
  refine ⟨_, c, rfl, hf, fun _ => ⟨g, 0, rfl, fun i hi => ?_⟩⟩
  rw [Nat.zero_add]
  refine h.cell i _ ?_
  have : cs.toList[i]? = some (.int .i64 (nm ds i)) := by rw [hc]; simp [nm, List.getD, hi]
  simpa using this

theorem d_right {v : Value} {ds : List Int} {w : World} (h : Isl w v ds) : Calls Tryz.prog 57 #[v] w fun e w' => e = .returned (.bool (okD ds)) ∧ w = w' := by
  have hf := h.few
  obtain ⟨ao, cap, rfl⟩ := h.slice
  by_cases h8 : 8 < ds.length
  · rw [okD_many h8]
    have o1 : (8 : Int) < ds.length := by omega
    clear h
    go_enter Tryz.func57, Tryz.ntmps57
    go_wp2
    go_ret
    exact ⟨rfl, rfl⟩
  · have o1 : ¬ (8 : Int) < ds.length := by omega
    obtain ⟨N, hN⟩ : ∃ N, ds.length = N := ⟨_, rfl⟩
    have HN := Lib.hid hN
    rw [hN] at h hf h8 o1 ⊢
    have HS := Lib.hid h
    clear h hN
    go_enter Tryz.func57, Tryz.ntmps57
    go_wp2
    go_loop [10] (fun i => ∃ n : Nat, n ≤ N ∧ i = .int .i64 n ∧ ∀ j, j < n → okN (nm ds j)) (fun i => N - (intOf i).toNat)
    case atStart => exact ⟨0, by omega, rfl, fun j hj => by omega⟩
    case round =>
      obtain ⟨n, hn, rfl, ha⟩ := hrel
      have HA := Lib.hid ha
      clear ha
      by_cases hlt : n < N
      · obtain ⟨_, g, o, e1, hc⟩ := HS.out.at (by omega)
        subst e1
        have c0 := hc n hlt
        have o3 : (n : Int) < N := by omega
        have o4 : n < N := hlt
        obtain ⟨d, hd⟩ : ∃ d, nm ds n = d := ⟨_, rfl⟩
        rw [hd] at c0
        have HD := Lib.hid hd
        clear hd hc
        by_cases h1 : d < 65536
        · have E : Hid (okD ds = false) := Lib.hid (okD_bad (i := n) (by rw [HN.out]; exact hlt) (by rw [HD.out]; intro e; have := e.1; omega))
          go_wp2
          go_ret
          exact ⟨by rw [E.out]; rfl, rfl⟩
        · by_cases h2 : 67108864 < d
          · have E : Hid (okD ds = false) := Lib.hid (okD_bad (i := n) (by rw [HN.out]; exact hlt) (by rw [HD.out]; intro e; have := e.2; omega))
            go_wp2
            go_ret
            exact ⟨by rw [E.out]; rfl, rfl⟩
          · have E : Hid (okN d) := Lib.hid ⟨by omega, by omega⟩
            go_wp2
            go_round
            case rel => exact ⟨n + 1, by omega, by go_num, fun j hj => by
              by_cases e : j = n
              · rw [e, HD.out]; exact E.out
              · exact HA.out j (by omega)⟩
            case measure => simp [intOf]; omega
      · obtain rfl : n = N := by omega
        have E : Hid (okD ds = true) := Lib.hid (okD_yes (by rw [HN.out]; omega) (fun i hi => HA.out i (by rw [HN.out] at hi; exact hi)))
        have o3 : ¬ (n : Int) < n := by omega
        go_wp2
        go_ret
        exact ⟨by rw [E.out]; rfl, rfl⟩

theorem r9_dashes {v : Value} {ds : List Int} {w : World} (h : Isl w v ds) : Calls Tryz.prog 35 #[v] w fun e w' => e = .returned (.bool (okD ds)) ∧ w = w' := by
  have hf := h.few
  obtain ⟨ao, cap, rfl⟩ := h.slice
  obtain ⟨N, hN⟩ : ∃ N, ds.length = N := ⟨_, rfl⟩
  have HN := Lib.hid hN
  rw [hN] at h hf ⊢
  have HS := Lib.hid h
  clear h hN
  go_enter Tryz.func35, Tryz.ntmps35
  go_wp2
  go_loop [3] (fun i => ∃ n : Nat, n ≤ N ∧ i = .int .i64 n ∧ ∀ j, j < n → okN (nm ds j)) (fun i => N - (intOf i).toNat)
  case atStart => exact ⟨0, by omega, rfl, fun j hj => by omega⟩
  case round =>
    obtain ⟨n, hn, rfl, ha⟩ := hrel
    have HA := Lib.hid ha
    clear ha
    by_cases hlt : n < N
    · obtain ⟨_, g, o, e1, hc⟩ := HS.out.at (by omega)
      subst e1
      have c0 := hc n hlt
      have o3 : (n : Int) < N := by omega
      have o4 : n < N := hlt
      obtain ⟨d, hd⟩ : ∃ d, nm ds n = d := ⟨_, rfl⟩
      rw [hd] at c0
      have HD := Lib.hid hd
      clear hd hc
      by_cases h1 : d < 65536
      · have E : Hid (okD ds = false) := Lib.hid (okD_bad (i := n) (by rw [HN.out]; exact hlt) (by rw [HD.out]; intro e; have := e.1; omega))
        go_wp2
        go_ret
        exact ⟨by rw [E.out]; rfl, rfl⟩
      · by_cases h2 : 67108864 < d
        · have E : Hid (okD ds = false) := Lib.hid (okD_bad (i := n) (by rw [HN.out]; exact hlt) (by rw [HD.out]; intro e; have := e.2; omega))
          go_wp2
          go_ret
          exact ⟨by rw [E.out]; rfl, rfl⟩
        · have E : Hid (okN d) := Lib.hid ⟨by omega, by omega⟩
          go_wp2
          go_round
          case rel => exact ⟨n + 1, by omega, by go_num, fun j hj => by
            by_cases e : j = n
            · rw [e, HD.out]; exact E.out
            · exact HA.out j (by omega)⟩
          case measure => simp [intOf]; omega
    · obtain rfl : n = N := by omega
      have E : Hid (okD ds = decide ((n : Int) ≤ 8)) := Lib.hid (by rw [okD_all (fun i hi => HA.out i (by rw [HN.out] at hi; exact hi)), HN.out])
      have o3 : ¬ (n : Int) < n := by omega
      by_cases h8 : (n : Int) ≤ 8
      · go_wp2
        go_ret
        exact ⟨by rw [E.out]; simp [h8], rfl⟩
      · go_wp2
        go_ret
        exact ⟨by rw [E.out]; simp [h8], rfl⟩

end Go.Proofs.YtglbfpjjnboeaaaGreat

namespace Go.Proofs.YtglbfpjjnboeaaaGreat
namespace M

/-- A colour: its four parts. -/
structure Cr where
  r : Int
  g : Int
  b : Int
  q : Int
deriving DecidableEq
instance : Inhabited Cr := ⟨⟨0, 0, 0, 0⟩⟩
/-- Each part is a byte. -/
structure Cr.Ok (c : Cr) : Prop where
  r0 : 0 ≤ c.r
  r1 : c.r ≤ 255
  g0 : 0 ≤ c.g
  g1 : c.g ≤ 255
  b0 : 0 ≤ c.b
  b1 : c.b ≤ 255
  q0 : 0 ≤ c.q
  q1 : c.q ≤ 255
/-- One part, the share held already. -/
def mixh (a b p : Int) : Int := clamp (a + (b - a) * p / 65536) 0 255
def mix (x y : Cr) (p : Int) : Cr := ⟨mixh x.r y.r (hold p), mixh x.g y.g (hold p), mixh x.b y.b (hold p), mixh x.q y.q (hold p)⟩
def luma (c : Cr) : Int := (77 * c.r + 150 * c.g + 29 * c.b + 128) / 256
/-- A key of a colour: tick, colour, how, and the four numbers of its ease. -/
structure Ck where
  t : Int
  p : Cr
  h : Int
  a : Int
  b : Int
  c : Int
  d : Int
deriving DecidableEq
instance : Inhabited Ck := ⟨⟨0, default, 0, 0, 0, 0, 0⟩⟩
def ck (ks : List Ck) (i : Nat) : Ck := ks.getD i default
/-- The key without its colour. -/
def bare (k : Ck) : Ky := ⟨k.t, 0, k.h, k.a, k.b, k.c, k.d⟩
def bares (ks : List Ck) : List Ky := ks.map bare
def ctween (x y : Ck) (t : Int) : Cr := mix x.p y.p (goes x.h x.a x.b x.c x.d (prt x.t y.t t))
def atc (ks : List Ck) (t : Int) (no : Cr) : Cr :=
  if ks.length = 0 then no
  else if find (bares ks) t < 0 then (ck ks 0).p
  else if find (bares ks) t = (ks.length : Int) - 1 then (ck ks (find (bares ks) t).toNat).p
  else ctween (ck ks (find (bares ks) t).toNat) (ck ks ((find (bares ks) t).toNat + 1)) t

theorem clamp_byte (x : Int) : 0 ≤ clamp x 0 255 ∧ clamp x 0 255 ≤ 255 := by unfold clamp; split <;> (try split) <;> omega
theorem mixh_bd (a b p : Int) : 0 ≤ mixh a b p ∧ mixh a b p ≤ 255 := clamp_byte _
theorem mix_ok (x y : Cr) (p : Int) : (mix x y p).Ok :=
  ⟨(mixh_bd _ _ _).1, (mixh_bd _ _ _).2, (mixh_bd _ _ _).1, (mixh_bd _ _ _).2, (mixh_bd _ _ _).1, (mixh_bd _ _ _).2, (mixh_bd _ _ _).1, (mixh_bd _ _ _).2⟩
theorem clamp_self {a : Int} (h0 : 0 ≤ a) (h1 : a ≤ 255) : clamp a 0 255 = a := by unfold clamp; rw [if_neg (by omega), if_neg (by omega)]
theorem mixh_zero {a b : Int} (h0 : 0 ≤ a) (h1 : a ≤ 255) : mixh a b 0 = a := by
  unfold mixh; rw [Int.mul_zero, Int.zero_ediv, Int.add_zero]; exact clamp_self h0 h1
theorem mixh_one {a b : Int} (h0 : 0 ≤ b) (h1 : b ≤ 255) : mixh a b 65536 = b := by
  unfold mixh; rw [Int.mul_ediv_cancel _ (by decide), show a + (b - a) = b by omega]; exact clamp_self h0 h1
theorem mix_zero {x : Cr} (y : Cr) (h : x.Ok) : mix x y 0 = x := by
  unfold mix
  rw [show hold 0 = 0 from rfl, mixh_zero h.r0 h.r1, mixh_zero h.g0 h.g1, mixh_zero h.b0 h.b1, mixh_zero h.q0 h.q1]
theorem mix_one (x : Cr) {y : Cr} (h : y.Ok) : mix x y 65536 = y := by
  unfold mix
  rw [show hold 65536 = 65536 from rfl, mixh_one h.r0 h.r1, mixh_one h.g0 h.g1, mixh_one h.b0 h.b1, mixh_one h.q0 h.q1]
/-- What lies between two, by a share from 0 to One. -/
theorem way_in {d p : Int} (p0 : 0 ≤ p) (p1 : p ≤ 65536) : min 0 d ≤ d * p / 65536 ∧ d * p / 65536 ≤ max 0 d := by
  rcases Int.le_total 0 d with h | h
  · have a : d * p ≤ d * 65536 := Int.mul_le_mul_of_nonneg_left p1 h
    have b : 0 ≤ d * p := Int.mul_nonneg h p0
    omega
  · have a : (-d) * p ≤ (-d) * 65536 := Int.mul_le_mul_of_nonneg_left p1 (by omega)
    have b : 0 ≤ (-d) * p := Int.mul_nonneg (by omega) p0
    rw [Int.neg_mul] at a b
    omega
theorem mixh_in {a b p : Int} (a0 : 0 ≤ a) (a1 : a ≤ 255) (b0 : 0 ≤ b) (b1 : b ≤ 255) (p0 : 0 ≤ p) (p1 : p ≤ 65536) : min a b ≤ mixh a b p ∧ mixh a b p ≤ max a b := by
  obtain ⟨h1, h2⟩ := way_in (d := b - a) p0 p1
  unfold mixh
  rw [clamp_self (by omega) (by omega)]
  omega
theorem bares_length (ks : List Ck) : (bares ks).length = ks.length := by simp [bares]
theorem ky_bares (ks : List Ck) (i : Nat) : ky (bares ks) i = bare (ck ks i) := by
  unfold ky bares ck
  rw [List.getD_eq_getElem?_getD, List.getD_eq_getElem?_getD, List.getElem?_map]
  cases ks[i]? <;> rfl
theorem atc_cases (ks : List Ck) (t : Int) (no : Cr) (h : 0 < ks.length) : (find (bares ks) t = -1 ∧ atc ks t no = (ck ks 0).p) ∨
    (∃ i : Nat, find (bares ks) t = i ∧ i + 1 = ks.length ∧ atc ks t no = (ck ks i).p) ∨ (∃ i : Nat, find (bares ks) t = i ∧ i + 1 < ks.length ∧ atc ks t no = ctween (ck ks i) (ck ks (i + 1)) t) := by
  have hb := find_bd (bares ks) t
  rw [bares_length] at hb
  unfold atc
  rw [if_neg (by omega)]
  by_cases h0 : find (bares ks) t < 0
  · exact Or.inl ⟨by omega, if_pos h0⟩
  · rw [if_neg h0]
    obtain ⟨i, hi⟩ := Int.eq_ofNat_of_zero_le (show 0 ≤ find (bares ks) t by omega)
    rw [hi]
    by_cases h1 : i + 1 = ks.length
    · exact Or.inr (Or.inl ⟨i, rfl, h1, if_pos (by omega)⟩)
    · refine Or.inr (Or.inr ⟨i, rfl, by omega, ?_⟩)
      rw [if_neg (by omega)]
      rfl

end M
end Go.Proofs.YtglbfpjjnboeaaaGreat

namespace Go.Proofs.YtglbfpjjnboeaaaGreat
open Go.RowKit
open M

attribute [local go_sem] alloc_drewN setCell_drewN shape_drewN

/-- A colour's cells. -/
abbrev cCells (c : Cr) : Array Value := #[.int .u8 c.r, .int .u8 c.g, .int .u8 c.b, .int .u8 c.q]


theorem quiet2 {P : Program} {f : FuncId} {args : Array Value} {w : World} {m n : Nat} {v : Value} (h : Calls P f args (w.drewN (m + n)) fun e w' => e = .returned v ∧ w.drewN (m + n) = w') :
    Calls P f args (w.drewN (m + n)) fun e w'' => e = .returned v ∧ ∃ k, w'' = w.drewN (m + k) := h.mono fun _ _ ⟨a, b⟩ => ⟨a, n, b.symm⟩
/-- The first n parts mixed. -/
def upto (c : Cr) : Nat → Array Value
  | 0 => #[.int .u8 0, .int .u8 0, .int .u8 0, .int .u8 0]
  | 1 => #[.int .u8 c.r, .int .u8 0, .int .u8 0, .int .u8 0]
  | 2 => #[.int .u8 c.r, .int .u8 c.g, .int .u8 0, .int .u8 0]
  | 3 => #[.int .u8 c.r, .int .u8 c.g, .int .u8 c.b, .int .u8 0]
  | _ => #[.int .u8 c.r, .int .u8 c.g, .int .u8 c.b, .int .u8 c.q]
/-- Mix's world behind n rounds. -/
def mixing (w : World) (x y c : Cr) (n : Nat) : World :=
  (((w.alloc (.cells (cCells x) 27)).alloc (.cells (cCells y) 27)).alloc (.cells #[.int .u8 0, .int .u8 0, .int .u8 0, .int .u8 0] 27)).alloc (.cells (upto c n) 27)
theorem mixing_at (w : World) (x y c : Cr) (n : Nat) : mixing w x y c n = (((w.alloc (.cells (cCells x) 27)).alloc (.cells (cCells y) 27)).alloc (.cells #[.int .u8 0, .int .u8 0, .int .u8 0, .int .u8 0] 27)).alloc (.cells (upto c n) 27) := rfl
theorem mixed_below (w : World) (o1 o2 o3 o4 : Obj) (m : Nat) : Below w.heap.size w (((((w.alloc o1).alloc o2).alloc o3).alloc o4).drewN m) :=
  below_drewN (((((Below.refl _ _).alloc (Nat.le_refl _) _).alloc (by simp) _).alloc (by simp; omega) _).alloc (by simp; omega) _) _


end Go.Proofs.YtglbfpjjnboeaaaGreat

namespace Go.Proofs.YtglbfpjjnboeaaaGreat
open Go.RowKit
open M

/-- A colour key's cells. -/
abbrev kkCells (k : Ck) : Array Value := #[.int .i64 k.t, .int .u8 k.p.r, .int .u8 k.p.g, .int .u8 k.p.b, .int .u8 k.p.q, .int .i64 k.h, .int .i64 k.a, .int .i64 k.b, .int .i64 k.c, .int .i64 k.d]
/-- A row of colour keys lies in block g from cell o on. -/
structure Crow (w : World) (g o : Nat) (ks : List Ck) : Prop where
  few : ks.length ≤ 8796093022208
  ok : ∀ i, i < ks.length → (ck ks i).p.Ok
  c0 : ∀ i, i < ks.length → w.cell? ⟨g, o + i * 10, none⟩ = some (.int .i64 (ck ks i).t)
  c1 : ∀ i, i < ks.length → w.cell? ⟨g, o + i * 10 + 1, none⟩ = some (.int .u8 (ck ks i).p.r)
  c2 : ∀ i, i < ks.length → w.cell? ⟨g, o + i * 10 + 2, none⟩ = some (.int .u8 (ck ks i).p.g)
  c3 : ∀ i, i < ks.length → w.cell? ⟨g, o + i * 10 + 3, none⟩ = some (.int .u8 (ck ks i).p.b)
  c4 : ∀ i, i < ks.length → w.cell? ⟨g, o + i * 10 + 4, none⟩ = some (.int .u8 (ck ks i).p.q)
  c5 : ∀ i, i < ks.length → w.cell? ⟨g, o + i * 10 + 5, none⟩ = some (.int .i64 (ck ks i).h)
  c6 : ∀ i, i < ks.length → w.cell? ⟨g, o + i * 10 + 6, none⟩ = some (.int .i64 (ck ks i).a)
  c7 : ∀ i, i < ks.length → w.cell? ⟨g, o + i * 10 + 7, none⟩ = some (.int .i64 (ck ks i).b)
  c8 : ∀ i, i < ks.length → w.cell? ⟨g, o + i * 10 + 8, none⟩ = some (.int .i64 (ck ks i).c)
  c9 : ∀ i, i < ks.length → w.cell? ⟨g, o + i * 10 + 9, none⟩ = some (.int .i64 (ck ks i).d)
theorem Crow.below {w w' : World} {g o B : Nat} {ks : List Ck} (h : Crow w g o ks) (hb : Below B w w') (hg : g < B) : Crow w' g o ks :=
  ⟨h.few, h.ok, fun i hi => (hb.cell (p := ⟨g, _, _⟩) hg).trans (h.c0 i hi), fun i hi => (hb.cell (p := ⟨g, _, _⟩) hg).trans (h.c1 i hi), fun i hi => (hb.cell (p := ⟨g, _, _⟩) hg).trans (h.c2 i hi), fun i hi => (hb.cell (p := ⟨g, _, _⟩) hg).trans (h.c3 i hi), fun i hi => (hb.cell (p := ⟨g, _, _⟩) hg).trans (h.c4 i hi), fun i hi => (hb.cell (p := ⟨g, _, _⟩) hg).trans (h.c5 i hi), fun i hi => (hb.cell (p := ⟨g, _, _⟩) hg).trans (h.c6 i hi), fun i hi => (hb.cell (p := ⟨g, _, _⟩) hg).trans (h.c7 i hi), fun i hi => (hb.cell (p := ⟨g, _, _⟩) hg).trans (h.c8 i hi), fun i hi => (hb.cell (p := ⟨g, _, _⟩) hg).trans (h.c9 i hi)⟩
theorem Crow.lt {w : World} {g o : Nat} {ks : List Ck} (h : Crow w g o ks) (hn : 0 < ks.length) : g < w.heap.size := World.block_lt_of_cell? w _ (h.c0 0 hn)
theorem Crow.later {W : World} {g o : Nat} {ks : List Ck} (h : Crow W g o ks) (hn : 0 < ks.length) (z : Later W) : Crow z.to g o ks := h.below z.below (h.lt hn)
/-- The slice's value v holds just these keys. -/
def Csl (w : World) (v : Value) (ks : List Ck) : Prop := (ks = [] ∧ ∃ ao cap, v = .slice ao 0 cap) ∨ (0 < ks.length ∧ ∃ g o cap, v = .slice (some ⟨g, o, none⟩) ks.length cap ∧ Crow w g o ks)
theorem Csl.below {w w' : World} {v : Value} {ks : List Ck} (h : Csl w v ks) (hb : Below w.heap.size w w') : Csl w' v ks := by
  rcases h with h | ⟨h0, g, o, cap, hv, hr⟩
  · exact Or.inl h
  · exact Or.inr ⟨h0, g, o, cap, hv, hr.below hb (hr.lt h0)⟩
theorem Has.thaw {w : World} {g : Nat} {cs : Array Value} {t : TypeId} (h : Has w g cs t) (k : Nat) : w.frozen? ⟨g, k, none⟩ = false := by
  unfold Has at h
  simp [World.frozen?, h]

theorem four_below {B g : Nat} {w V : World} (h : Below B w V) (hg : B ≤ g) (a b c d : Value) :
    Below B w ((((V.setCell ⟨g, 0, none⟩ a).setCell ⟨g, 1, none⟩ b).setCell ⟨g, 2, none⟩ c).setCell ⟨g, 3, none⟩ d) := (((h.setCell hg _).setCell hg _).setCell hg _).setCell hg _


end Go.Proofs.YtglbfpjjnboeaaaGreat

namespace Go.Proofs.YtglbfpjjnboeaaaGreat
open Go.RowKit
open M

/-- The keys without their colours, of the call's own. -/
def Bared (w : World) (ks : List Ck) (e : Ending) (w' : World) : Prop := ∃ v, e = .returned v ∧ Own w' w.heap.size v (bares ks) ∧ Below w.heap.size w w'
theorem bare_put {w wr : World} {B g cap N n : Nat} {ks : List Ck} {qs : List Ky} {k : Ck} {o : Obj} (hk : ck ks n = k) (hsz : B ≤ wr.heap.size) (hq : qs.length = N) (hn : n < N) (hst : ∀ j, j < n → ky qs j = bare (ck ks j)) (hown : Own wr B (.slice (some ⟨g, 0, none⟩) N cap) qs) (hb : Below B w wr) :
    ∃ qs : List Ky, qs.length = N ∧ (∀ j, j < n + 1 → ky qs j = bare (ck ks j)) ∧
      Own ((((((((wr.alloc o).setCell ⟨g, n * 7, none⟩ (.int .i64 k.t)).setCell ⟨g, n * 7 + 1, none⟩ (.int .i64 0)).setCell ⟨g, n * 7 + 2, none⟩ (.int .i64 k.h)).setCell ⟨g, n * 7 + 3, none⟩ (.int .i64 k.a)).setCell ⟨g, n * 7 + 4, none⟩ (.int .i64 k.b)).setCell ⟨g, n * 7 + 5, none⟩ (.int .i64 k.c)).setCell ⟨g, n * 7 + 6, none⟩ (.int .i64 k.d)) B (.slice (some ⟨g, 0, none⟩) N cap) qs ∧
      Below B w ((((((((wr.alloc o).setCell ⟨g, n * 7, none⟩ (.int .i64 k.t)).setCell ⟨g, n * 7 + 1, none⟩ (.int .i64 0)).setCell ⟨g, n * 7 + 2, none⟩ (.int .i64 k.h)).setCell ⟨g, n * 7 + 3, none⟩ (.int .i64 k.a)).setCell ⟨g, n * 7 + 4, none⟩ (.int .i64 k.b)).setCell ⟨g, n * 7 + 5, none⟩ (.int .i64 k.c)).setCell ⟨g, n * 7 + 6, none⟩ (.int .i64 k.d)) := by
  have hg := hown.base.1
  have h0 : Own (wr.alloc o) B (.slice (some ⟨g, 0, none⟩) N cap) (qs.set n (ky qs n)) := by rw [set_self]; exact hown.alloc o
  have h1 := h0.put' hq hn 0 (n * 7) (by decide) rfl k.t
  have h2 := h1.put' hq hn 1 (n * 7 + 1) (by decide) rfl 0
  have h3 := h2.put' hq hn 2 (n * 7 + 2) (by decide) rfl k.h
  have h4 := h3.put' hq hn 3 (n * 7 + 3) (by decide) rfl k.a
  have h5 := h4.put' hq hn 4 (n * 7 + 4) (by decide) rfl k.b
  have h6 := h5.put' hq hn 5 (n * 7 + 5) (by decide) rfl k.c
  have h7 := h6.put' hq hn 6 (n * 7 + 6) (by decide) rfl k.d
  refine ⟨qs.set n (bare k), by simpa using hq, ?_, h7, (((((((hb.alloc hsz o).setCell hg _).setCell hg _).setCell hg _).setCell hg _).setCell hg _).setCell hg _).setCell hg _⟩
  intro j hj
  by_cases e : n = j
  · subst e; rw [ky_set_eq (by omega), hk]
  · rw [ky_set_ne e]; exact hst j (by omega)
theorem bared_all {ks : List Ck} {qs : List Ky} (hq : qs.length = ks.length) (h : ∀ j, j < ks.length → ky qs j = bare (ck ks j)) : qs = bares ks := by
  apply List.ext_getElem?
  intro j
  by_cases hj : j < ks.length
  · have := h j hj
    rw [← ky_bares] at this
    unfold ky at this
    rw [List.getD_eq_getElem?_getD, List.getD_eq_getElem?_getD, List.getElem?_eq_getElem (by omega), List.getElem?_eq_getElem (by rw [bares_length]; exact hj)] at this
    rw [List.getElem?_eq_getElem (by omega), List.getElem?_eq_getElem (by rw [bares_length]; exact hj)]
    exact congrArg some this
  · rw [List.getElem?_eq_none (by omega), List.getElem?_eq_none (by rw [bares_length]; omega)]

set_option maxHeartbeats 2000000 in
theorem h_bare1 (g o cap : Nat) (ks : List Ck) (w : World) (hr : Crow w g o ks) (hn : 0 < ks.length) (hf : ks.length ≤ 1000) :
    Calls Tryz.prog 89 #[.slice (some ⟨g, o, none⟩) ks.length cap] w (Bared w ks) := by
  obtain ⟨i0, hi, hz0, hz1, hz2⟩ := info_parts Tryz.infoKey
  have hg := hr.lt hn
  have HR := Lib.hid hr
  clear hr
  obtain ⟨B, hB⟩ : ∃ B, w.heap.size = B := ⟨_, rfl⟩
  rw [hB] at hg
  have HW := Lib.hid hB
  obtain ⟨N, hN⟩ : ∃ N, ks.length = N := ⟨_, rfl⟩
  rw [hN] at hn hf ⊢
  have HN := Lib.hid hN
  clear hN
  go_enter Tryz.func89, Tryz.ntmps89
  go_wp2_with (at_make; refine wpList_make_full _ rfl _ _ 24 rfl B 38 i0 (.agg #[.int .i64 0, .int .i64 0, .int .i64 0, .int .i64 0, .int .i64 0, .int .i64 0, .int .i64 0]) 7 Tryz.underlying24 hi hz0 hz1 _ _ _ _ N rfl rfl rfl rfl ?m1 ?m2 ?m3 ?_)
  case m1 => rw [hz2]; omega
  case m2 => unfold maxLen; omega
  case m3 => omega
  intro w3 hown3 hg3
  have hb3 : Below B w w3 := (Below.refl _ _).grown hg3 (by omega) (fun k hk => by cases hk)
  have ho3 : Own w3 B (.slice (some ⟨B, 0, none⟩) N N) (List.replicate N default) := by
    unfold Own
    rw [← made_keys, List.length_replicate, ← hB]
    rw [← hB] at hown3
    exact hown3
  have R0 : Hid (∃ qs : List Ky, qs.length = N ∧ (∀ j, j < 0 → ky qs j = bare (ck ks j)) ∧ Own w3 B (.slice (some ⟨B, 0, none⟩) N N) qs ∧ Below B w w3) := Lib.hid ⟨_, by simp, fun j hj => by omega, ho3, hb3⟩
  clear hown3 hg3 hb3 ho3 hB
  go_wp2
  go_loopw [4, 5, 11] (fun _ _ i wr => ∃ n : Nat, n ≤ N ∧ i = .int .i64 n ∧ ∃ qs : List Ky, qs.length = N ∧ (∀ j, j < n → ky qs j = bare (ck ks j)) ∧ Own wr B (.slice (some ⟨B, 0, none⟩) N N) qs ∧ Below B w wr) (fun _ _ i _ => N - (intOf i).toNat)
  case atStart => exact ⟨0, by omega, rfl, R0.out⟩
  case round =>
    clear R0
    obtain ⟨n, hn', rfl, qs, hq, hst, hown, hb⟩ := hrel
    by_cases hlt : n < N
    · have hr := HR.out.below hb hg
      have hln : n < ks.length := by have := HN.out; omega
      have c0 := hr.c0 n hln
      have c1 := hr.c1 n hln
      have c2 := hr.c2 n hln
      have c3 := hr.c3 n hln
      have c4 := hr.c4 n hln
      have c5 := hr.c5 n hln
      have c6 := hr.c6 n hln
      have c7 := hr.c7 n hln
      have c8 := hr.c8 n hln
      have c9 := hr.c9 n hln
      obtain ⟨k, hk⟩ : ∃ k, ck ks n = k := ⟨_, rfl⟩
      rw [hk] at c0 c1 c2 c3 c4 c5 c6 c7 c8 c9
      have hsz : B ≤ wr.heap.size := by have := hb.size; have := HW.out; omega
      have R := Lib.hid (bare_put (o := .cells (kkCells k) 45) hk hsz hq hlt hst hown hb)
      have ho2 : Own (wr.alloc (.cells (kkCells k) 45)) B (.slice (some ⟨B, 0, none⟩) N N) qs := hown.alloc _
      have hr2 := ho2.row (by omega) (by omega)
      have d0 := hr2.c0 n (by omega)
      have d1 := hr2.c1 n (by omega)
      have d2 := hr2.c2 n (by omega)
      have d3 := hr2.c3 n (by omega)
      have d4 := hr2.c4 n (by omega)
      have d5 := hr2.c5 n (by omega)
      have d6 := hr2.c6 n (by omega)
      rw [Nat.zero_add] at d0 d1 d2 d3 d4 d5 d6
      have fz := ho2.fro hq
      have o1 : (n : Int) < N := by omega
      clear hr hr2 ho2 hq hst hown hb hk
      obtain ⟨kt, ⟨kr, kg, kb, kq⟩, kh, ka, ke, kf, kd⟩ := k
      simp only at c0 c1 c2 c3 c4 c5 c6 c7 c8 c9
      go_wp2
      go_roundw
      case rel => exact ⟨n + 1, by omega, by go_num, R.out⟩
      case measure => simp [intOf]; omega
    · have en : n = N := by omega
      have eq := bared_all (ks := ks) (qs := qs) (by rw [HN.out]; exact hq) (fun j hj => hst j (by have := HN.out; omega))
      have R : Bared w ks (.returned (.slice (some ⟨B, 0, none⟩) N N)) wr := ⟨_, rfl, by rw [HW.out, ← eq]; exact hown, by rw [HW.out]; exact hb⟩
      have RH := Lib.hid R
      have o1 : (N : Int) ≤ n := by omega
      clear R hown hb hst hq eq en
      go_wp2
      go_ret
      exact RH.out
set_option maxHeartbeats 1000000 in
theorem h_bare0 (ao : Option Addr) (cap : Nat) (w : World) :
    Calls Tryz.prog 89 #[.slice ao 0 cap] w (Bared w []) := by
  obtain ⟨i0, hi, hz0, hz1, hz2⟩ := info_parts Tryz.infoKey
  go_enter Tryz.func89, Tryz.ntmps89
  go_wp2_with (at_make; refine wpList_make_full _ rfl _ _ 24 rfl w.heap.size 38 i0 (.agg #[.int .i64 0, .int .i64 0, .int .i64 0, .int .i64 0, .int .i64 0, .int .i64 0, .int .i64 0]) 7 Tryz.underlying24 hi hz0 hz1 _ _ _ _ 0 rfl rfl rfl rfl ?m1 ?m2 ?m3 ?_)
  case m1 => rw [hz2]; omega
  case m2 => unfold maxLen; omega
  case m3 => omega
  intro w3 hown3 hg3
  have e := made_keys 0
  rw [Nat.zero_mul] at e
  rw [e] at hown3
  have R : Bared w [] (.returned (.slice (some ⟨w.heap.size, 0, none⟩) 0 0)) w3 := ⟨_, rfl, hown3, (Below.refl _ _).grown hg3 (by omega) (fun k hk => by cases hk)⟩
  have RH := Lib.hid R
  clear R hown3 hg3 e
  go_wp2
  go_loop [4, 5, 11] (fun _ _ i => i = .int .i64 0) (fun _ _ _ => 0)
  case atStart => rfl
  case round =>
    subst hrel
    go_wp2
    go_ret
    exact RH.out
theorem h_bare {v : Value} {ks : List Ck} {w : World} (h : Csl w v ks) (hf : ks.length ≤ 1000) : Calls Tryz.prog 89 #[v] w (Bared w ks) := by
  rcases h with ⟨rfl, ao, cap, rfl⟩ | ⟨hn, g, o, cap, rfl, hr⟩
  · exact h_bare0 ao cap w
  · exact h_bare1 g o cap ks w hr hn hf
theorem Csl.len {w : World} {v : Value} {ks : List Ck} (h : Csl w v ks) : ks.length ≤ 8796093022208 ∧ ∃ ao cap, v = .slice ao ks.length cap := by
  rcases h with ⟨rfl, ao, cap, rfl⟩ | ⟨_, g, o, cap, rfl, hr⟩
  · exact ⟨by simp, ao, cap, rfl⟩
  · exact ⟨hr.few, _, cap, rfl⟩
theorem h_right {v : Value} {ks : List Ck} {w : World} (h : Csl w v ks) :
    Calls Tryz.prog 56 #[v] w fun e w' => e = .returned (.bool (right (bares ks))) ∧ Below w.heap.size w w' := by
  obtain ⟨hf, ao, cap, rfl⟩ := h.len
  by_cases h32 : ks.length ≤ 32
  · have HB := Lib.hid (h_bare h (by omega))
    have o1 : (ks.length : Int) ≤ 32 := by omega
    clear h
    go_enter Tryz.func56, Tryz.ntmps56
    go_wp2_with fail
    refine HB.out.mono ?_
    rintro e w1 ⟨v, rfl, hown, hb⟩
    have HS := Lib.hid (hown.sl (by rw [bares_length]; exact hf))
    have HB1 := Lib.hid hb
    clear hown hb HB
    go_wp2_with fail
    refine (k_right HS.out).mono ?_
    rintro e w2 ⟨rfl, hq⟩
    have HB2 := Lib.hid (HB1.out.trans (hq.mono HB1.out.size))
    clear hq HS HB1
    go_wp2
    go_ret
    exact ⟨rfl, HB2.out⟩
  · have e : right (bares ks) = false := by unfold right; rw [bares_length]; simp [h32]
    rw [e]
    have o1 : (32 : Int) < ks.length := by omega
    clear h e
    go_enter Tryz.func56, Tryz.ntmps56
    go_wp2
    go_ret
    exact ⟨rfl, Below.refl _ _⟩

end Go.Proofs.YtglbfpjjnboeaaaGreat

namespace Go.Proofs.YtglbfpjjnboeaaaGreat
open Go Go.RowKit
open M

structure Shp where
  form : Int
  n : Int
  W : List Ky
  vW : Value
  H : List Ky
  vH : Value
  P : List Pk
  vP : Value
  fill : Bool
  rule : Int
  kind : Int
  a : Cr
  b : Cr
  p : Pt
  q : Pt
  r : Int
  C : List Ck
  vC : Value
  stroke : Bool
  Wd : List Ky
  vWd : Value
  line : Cr
  cap : Int
  D : List Int
  vD : Value
  F : List Ky
  vF : Value
  T : List Ky
  vT : Value
/-- The cells of its paint. -/
abbrev paC (k : Int) (a b : Cr) (p q : Pt) (r : Int) : Array Value := #[.int .i64 k, .int .u8 a.r, .int .u8 a.g, .int .u8 a.b, .int .u8 a.q, .int .u8 b.r, .int .u8 b.g, .int .u8 b.b, .int .u8 b.q, .int .i64 p.x, .int .i64 p.y, .int .i64 q.x, .int .i64 q.y, .int .i64 r]
/-- Its cells. -/
abbrev shC (s : Shp) : Array Value := #[.int .i64 s.form, .int .i64 s.n, s.vW, s.vH, s.vP, .bool s.fill, .int .i64 s.rule,
  .int .i64 s.kind, .int .u8 s.a.r, .int .u8 s.a.g, .int .u8 s.a.b, .int .u8 s.a.q, .int .u8 s.b.r, .int .u8 s.b.g, .int .u8 s.b.b, .int .u8 s.b.q, .int .i64 s.p.x, .int .i64 s.p.y, .int .i64 s.q.x, .int .i64 s.q.y, .int .i64 s.r,
  s.vC, .bool s.stroke, s.vWd, .int .u8 s.line.r, .int .u8 s.line.g, .int .u8 s.line.b, .int .u8 s.line.q, .int .i64 s.cap, s.vD, s.vF, s.vT]
structure ShIn (w : World) (s : Shp) : Prop where
  W : Sl w s.vW s.W
  H : Sl w s.vH s.H
  P : Kl w s.vP s.P
  C : Csl w s.vC s.C
  Wd : Sl w s.vWd s.Wd
  D : Isl w s.vD s.D
  F : Sl w s.vF s.F
  T : Sl w s.vT s.T
theorem ShIn.below {w w' : World} {s : Shp} (h : ShIn w s) (hb : Below w.heap.size w w') : ShIn w' s :=
  ⟨h.W.below hb, h.H.below hb, h.P.below hb, h.C.below hb, h.Wd.below hb, h.D.below hb, h.F.below hb, h.T.below hb⟩
def formOk (s : Shp) : Bool :=
  if s.form = 0 ∨ s.form = 1 then decide (s.n = 0) && decide (s.P.length = 0)
  else if s.form = 2 then decide (2 ≤ s.n) && decide (s.n ≤ 16) && decide (s.P.length = 0)
  else if s.form = 3 then decide (s.n = 0) && decide (s.W.length = 0) && decide (s.H.length = 0)
  else false
def lineOk (s : Shp) : Bool := right s.W && right s.H && keysOk s.P
def paintOk (s : Shp) : Bool := decide (s.kind = 0 ∨ s.kind = 1 ∨ s.kind = 2) && (nearN s.p.x && nearN s.p.y && nearN s.q.x && nearN s.q.y && nearN s.r)
def fillOk (s : Shp) : Bool := decide (s.rule = 0 ∨ s.rule = 1) && paintOk s && right (bares s.C)
def drawOk (s : Shp) : Bool := right s.Wd && right s.F && right s.T && decide (s.cap = 0 ∨ s.cap = 1) && okD s.D
def okS (s : Shp) : Bool := formOk s && lineOk s && fillOk s && drawOk s
/-- Its path at the tick t: whether it is closed, its places. -/
def shCl (s : Shp) (t : Int) : Bool := if s.form = 0 ∨ s.form = 1 ∨ s.form = 2 then true else if s.form = 3 then atcl s.P t else false
def shAt (s : Shp) (t : Int) : List Pt :=
  if s.form = 0 then rectL (atk s.W t 0) (atk s.H t 0) else if s.form = 1 then ovalL (atk s.W t 0) (atk s.H t 0)
  else if s.form = 2 then starL s.n (atk s.W t 0) (atk s.H t 0) else if s.form = 3 then atps s.P t else []
/-- What a list of keys, of paths or of numbers holds can be told by its length alone. -/
theorem Sl.len {w : World} {v : Value} {ks : List Ky} (h : Sl w v ks) : ks.length ≤ 8796093022208 ∧ ∃ ao cap, v = .slice ao ks.length cap := by
  rcases h with ⟨rfl, ao, cap, rfl⟩ | ⟨_, g, o, cap, rfl, hr⟩
  · exact ⟨by simp, ao, cap, rfl⟩
  · exact ⟨hr.few, _, cap, rfl⟩
theorem Kl.len {w : World} {v : Value} {ks : List Pk} (h : Kl w v ks) : ks.length ≤ 100 ∧ ∃ ao cap, v = .slice ao ks.length cap := by
  obtain ⟨ao, cap, rfl, hf, _⟩ := h
  exact ⟨hf, ao, cap, rfl⟩

end Go.Proofs.YtglbfpjjnboeaaaGreat

namespace Go.Proofs.YtglbfpjjnboeaaaGreat
open Go Go.RowKit

theorem has_setRow {w : World} {g : Nat} {old cs : Array Value} {t : TypeId} (h : Has w g old t) : Has (w.setRow g cs) g cs t := setRow_heap w g old cs t (0, 0) h
theorem has_setRow_ne {w : World} {g k : Nat} {cs ds : Array Value} {t : TypeId} (h : Has w k ds t) (hne : k ≠ g) : Has (w.setRow g cs) k ds t := (setRow_other w g k cs hne).trans h
theorem below_setRow {w v : World} {g B : Nat} {cs : Array Value} (h : Below B w v) (hg : B ≤ g) : Below B w (v.setRow g cs) := by
  refine h.trans ⟨rfl, rfl, rfl, by simp [World.setRow], fun k hk => setRow_other v g k cs (by omega)⟩

end Go.Proofs.YtglbfpjjnboeaaaGreat

namespace Go.Proofs.YtglbfpjjnboeaaaGreat
open Go.RowKit
open M

def Colorss (w : World) (g : Nat) (v : Value) (e : Ending) (w' : World) : Prop := ∃ c : Cr, e = .returned (.agg (cCells c)) ∧ c.Ok ∧ Tp w' g v ∧ w.grownBy w' (some g)

/-- Four numbers put into a block that is younger than w. -/
theorem four_cells {w w1 : World} {g h : Nat} {v : Value} (a b c d : Value) (ht0 : Tp w g v) (hh : w.heap.size ≤ h) (ht : Tp w1 g v) (hg : w.grownBy w1 (some g)) :
    Tp ((((w1.setCell ⟨h, 0, none⟩ a).setCell ⟨h, 1, none⟩ b).setCell ⟨h, 2, none⟩ c).setCell ⟨h, 3, none⟩ d) g v ∧ w.grownBy ((((w1.setCell ⟨h, 0, none⟩ a).setCell ⟨h, 1, none⟩ b).setCell ⟨h, 2, none⟩ c).setCell ⟨h, 3, none⟩ d) (some g) := by
  have hk : w1.grownBy ((((w1.setCell ⟨h, 0, none⟩ a).setCell ⟨h, 1, none⟩ b).setCell ⟨h, 2, none⟩ c).setCell ⟨h, 3, none⟩ d) (some h) := grownBy_set (grownBy_set (grownBy_set (grownBy_set (World.grownBy.refl _ _) _ _) _ _) _ _) _ _
  exact ⟨ht0.young ht hk (fun k e => by simp at e; omega), grownBy_own hg hk (fun k e => by simp at e; omega)⟩

set_option maxRecDepth 100000 in
set_option maxHeartbeats 2000000 in
theorem t_color (g : Nat) (v : Value) (w : World) (h : Tp w g v) :
    Calls Tryz.prog 26 #[.pointer (some ⟨g, 0, none⟩)] w (Colorss w g v) := by
  have h0 : Tp (w.alloc (.cells #[.int .u8 0, .int .u8 0, .int .u8 0, .int .u8 0] 27)) g v := tp_alloc h _
  have g0 : w.grownBy (w.alloc (.cells #[.int .u8 0, .int .u8 0, .int .u8 0, .int .u8 0] 27)) (some g) := World.grownBy_alloc _ _ _
  have k0 : Has (w.alloc (.cells #[.int .u8 0, .int .u8 0, .int .u8 0, .int .u8 0] 27)) w.heap.size #[.int .u8 0, .int .u8 0, .int .u8 0, .int .u8 0] 27 := has_new0
  have hne : w.heap.size ≠ g := by have := h.lt; omega
  have HT := Lib.hid h
  have H0 := Lib.hid h0
  have G0 := Lib.hid g0
  have K0 := Lib.hid k0
  have HN := Lib.hid hne
  clear h h0 g0 k0 hne
  go_enter Tryz.func26, Tryz.ntmps26
  go_wp2_with fail
  refine (t_next g v 256 _ (by omega) (by omega) H0.out).mono ?_
  rintro e w1 ⟨a, rfl, a0, a1, ht, hg⟩
  have H1 := Lib.hid ht
  have G1 := Lib.hid (grownBy_trans G0.out hg)
  have K1 := Lib.hid (has_grown K0.out hg HN.out)
  clear ht hg H0 G0 K0
  go_wp2_with fail
  refine (t_next g v 256 _ (by omega) (by omega) H1.out).mono ?_
  rintro e w2 ⟨b, rfl, b0, b1, ht, hg⟩
  have H2 := Lib.hid ht
  have G2 := Lib.hid (grownBy_trans G1.out hg)
  have K2 := Lib.hid (has_grown K1.out hg HN.out)
  clear ht hg H1 G1 K1
  go_wp2_with fail
  refine (t_next g v 256 _ (by omega) (by omega) H2.out).mono ?_
  rintro e w3 ⟨c, rfl, c0, c1, ht, hg⟩
  have H3 := Lib.hid ht
  have G3 := Lib.hid (grownBy_trans G2.out hg)
  have K3 := Lib.hid (has_grown K2.out hg HN.out)
  clear ht hg H2 G2 K2
  go_wp2_with fail
  refine (t_next g v 256 _ (by omega) (by omega) H3.out).mono ?_
  rintro e w4 ⟨d, rfl, d0, d1, ht, hg⟩
  have H4 := Lib.hid ht
  have G4 := Lib.hid (grownBy_trans G3.out hg)
  have K4 := Lib.hid (has_grown K3.out hg HN.out)
  clear ht hg H3 G3 K3
  obtain ⟨V, hV⟩ : ∃ V, w4.alloc (.cells #[.int .u8 255, .int .u8 255, .int .u8 128, .int .u8 d] 5) = V := ⟨_, rfl⟩
  obtain ⟨A, hA⟩ : ∃ A, w4.heap.size = A := ⟨_, rfl⟩
  have HA : Hid (A ≠ g) := Lib.hid (by have := HT.out.lt; have := G4.out.size; omega)
  have KV : Hid (Has V A #[.int .u8 255, .int .u8 255, .int .u8 128, .int .u8 d] 5) := Lib.hid (by rw [← hV]; exact has_new hA)
  have H5 : Hid (Tp V g v) := Lib.hid (by rw [← hV]; exact tp_alloc H4.out _)
  have G5 : Hid (w.grownBy V (some g)) := Lib.hid (by rw [← hV]; exact grownBy_own G4.out (World.grownBy_alloc w4 _ none) (fun k hk => by cases hk))
  have K5 : Hid (Has V w.heap.size #[.int .u8 0, .int .u8 0, .int .u8 0, .int .u8 0] 27) := Lib.hid (by rw [← hV]; exact K4.out.alloc _)
  have HV := Lib.hid hV
  clear hV H4 G4 K4
  go_wp2_with fail
  rw [HV.out]
  clear hA
  refine (t_next g v 4 _ (by omega) (by omega) H5.out).mono ?_
  rintro e w6 ⟨x, rfl, x0, x1, ht, hg⟩
  have kA := has_grown KV.out hg HA.out
  have kB := has_grown K5.out hg HN.out
  obtain ⟨n, rfl⟩ := Int.eq_ofNat_of_zero_le x0
  obtain ⟨q, hq, q0, q1⟩ : ∃ q : Int, w6.cell? ⟨A, n, none⟩ = some (.int .u8 q) ∧ 0 ≤ q ∧ q ≤ 255 := by
    rcases (show n = 0 ∨ n = 1 ∨ n = 2 ∨ n = 3 by omega) with rfl | rfl | rfl | rfl
    · exact ⟨255, kA.cell 0 _ rfl, by omega, by omega⟩
    · exact ⟨255, kA.cell 1 _ rfl, by omega, by omega⟩
    · exact ⟨128, kA.cell 2 _ rfl, by omega, by omega⟩
    · exact ⟨d, kA.cell 3 _ rfl, by omega, by omega⟩
  have R := Lib.hid (four_cells (h := w.heap.size) (.int .u8 a) (.int .u8 b) (.int .u8 c) (.int .u8 q) HT.out (Nat.le_refl _) ht (grownBy_trans G5.out hg))
  have k0 := kB.cell 0 _ rfl
  have k1 := kB.cell 1 _ rfl
  have k2 := kB.cell 2 _ rfl
  have k3 := kB.cell 3 _ rfl
  have fz := has_fro kB
  have o1 : (n : Int) ≤ 3 := by omega
  have o2 : n < 4 := by omega
  clear ht hg H5 G5 K5 KV kA kB HT x0 x1
  go_wp2
  refine bodyPost_ret (v := .agg (cCells ⟨a, b, c, q⟩)) (by simp [results, Tryz.results26, go_sem, k0, k1, k2, k3]) rfl ?_
  have ok : (⟨a, b, c, q⟩ : Cr).Ok := ⟨a0, by simp only; omega, b0, by simp only; omega, c0, by simp only; omega, q0, q1⟩
  exact ⟨⟨a, b, c, q⟩, rfl, ok, R.out.1, R.out.2⟩

/-- A paint that may be. -/
def Paints (w : World) (g : Nat) (v : Value) (e : Ending) (w' : World) : Prop := ∃ (k : Int) (a b : Cr) (p q : Pt) (r : Int), e = .returned (.agg (paC k a b p q r)) ∧ (0 ≤ k ∧ k ≤ 2) ∧ a.Ok ∧ b.Ok ∧
  (-262144 ≤ p.x ∧ p.x ≤ 851967 ∧ -262144 ≤ p.y ∧ p.y ≤ 851967 ∧ -262144 ≤ q.x ∧ q.x ≤ 851967 ∧ -262144 ≤ q.y ∧ q.y ≤ 851967 ∧ 0 ≤ r ∧ r ≤ 851967) ∧ Tp w' g v ∧ w.grownBy w' (some g)

set_option maxRecDepth 100000 in
set_option maxHeartbeats 2000000 in
theorem t_paint (g : Nat) (v : Value) (w : World) (h : Tp w g v) :
    Calls Tryz.prog 25 #[.pointer (some ⟨g, 0, none⟩)] w (Paints w g v) := by
  obtain ⟨B, hB⟩ : ∃ B, w.heap.size = B := ⟨_, rfl⟩
  obtain ⟨W, hW⟩ : ∃ W, w.alloc (.cells (paC 0 ⟨0, 0, 0, 0⟩ ⟨0, 0, 0, 0⟩ ⟨0, 0⟩ ⟨0, 0⟩ 0) 31) = W := ⟨_, rfl⟩
  have T0 : Hid (Tp W g v) := Lib.hid (by rw [← hW]; exact tp_alloc h _)
  have G0 : Hid (w.grownBy W (some g)) := Lib.hid (by rw [← hW]; exact World.grownBy_alloc _ _ _)
  have K0 : Hid (Has W B (paC 0 ⟨0, 0, 0, 0⟩ ⟨0, 0, 0, 0⟩ ⟨0, 0⟩ ⟨0, 0⟩ 0) 31) := Lib.hid (by rw [← hW]; exact has_new hB)
  have HW := Lib.hid hW
  have HNE : Hid (B ≠ g) := Lib.hid (by have := h.lt; omega)
  have HT := Lib.hid h
  clear hW h
  go_enter Tryz.func25, Tryz.ntmps25
  go_wp2_with fail
  rw [HW.out]
  refine (t_next g v 3 _ (by omega) (by omega) T0.out).mono ?_
  rintro e w1 ⟨k, rfl, k0, k1, ht, hg⟩
  have T1 := Lib.hid ht
  have G1 := Lib.hid (grownBy_trans G0.out hg)
  have K1 := Lib.hid (has_grown K0.out hg HNE.out)
  clear ht hg T0 G0 K0
  go_wp2_with fail
  refine (t_color g v _ T1.out).mono ?_
  rintro e w2 ⟨a, rfl, ao, ht, hg⟩
  have T2 := Lib.hid ht
  have G2 := Lib.hid (grownBy_trans G1.out hg)
  have K2 := Lib.hid (has_grown K1.out hg HNE.out)
  have AO := Lib.hid ao
  clear ht hg T1 G1 K1 ao
  go_wp2_with fail
  refine (t_color g v _ T2.out).mono ?_
  rintro e w3 ⟨b, rfl, bo, ht, hg⟩
  have T3 := Lib.hid ht
  have G3 := Lib.hid (grownBy_trans G2.out hg)
  have K3 := Lib.hid (has_grown K2.out hg HNE.out)
  have BO := Lib.hid bo
  clear ht hg T2 G2 K2 bo
  obtain ⟨P, hP⟩ : ∃ P, w3.heap.size = P := ⟨_, rfl⟩
  obtain ⟨V, hV⟩ : ∃ V, w3.alloc (.cells (paC k a b ⟨0, 0⟩ ⟨0, 0⟩ 0) 31) = V := ⟨_, rfl⟩
  have T4 : Hid (Tp V g v) := Lib.hid (by rw [← hV]; exact tp_alloc T3.out _)
  have G4 : Hid (w.grownBy V (some g)) := Lib.hid (by rw [← hV]; exact grownBy_own G3.out (World.grownBy_alloc w3 _ none) (fun k hk => by cases hk))
  have K4 : Hid (Has V B (paC 0 ⟨0, 0, 0, 0⟩ ⟨0, 0, 0, 0⟩ ⟨0, 0⟩ ⟨0, 0⟩ 0) 31) := Lib.hid (by rw [← hV]; exact K3.out.alloc _)
  have P4 : Hid (Has V P (paC k a b ⟨0, 0⟩ ⟨0, 0⟩ 0) 31) := Lib.hid (by rw [← hV]; exact has_new hP)
  have HV := Lib.hid hV
  have NP : Hid (P ≠ g ∧ P ≠ B ∧ w.heap.size ≤ P) := Lib.hid (by have := HT.out.lt; have := K3.out.lt; have := G3.out.size; omega)
  clear hV T3 G3 K3
  go_upto_region 2 with fail
  rw [HV.out]
  clear hP
  have p0 := P4.out.cell 0 _ rfl
  go_upto_if 13 with fail
  go_cut [13] (fun _ wx => ∃ (p q : Pt) (r : Int), Has wx P (paC k a b p q r) 31 ∧ Has wx B (paC 0 ⟨0, 0, 0, 0⟩ ⟨0, 0, 0, 0⟩ ⟨0, 0⟩ ⟨0, 0⟩ 0) 31 ∧ Tp wx g v ∧ w.grownBy wx (some g) ∧
    (-262144 ≤ p.x ∧ p.x ≤ 851967 ∧ -262144 ≤ p.y ∧ p.y ≤ 851967 ∧ -262144 ≤ q.x ∧ q.x ≤ 851967 ∧ -262144 ≤ q.y ∧ q.y ≤ 851967 ∧ 0 ≤ r ∧ r ≤ 851967))
  case first =>
    by_cases hk : k = 0
    · subst hk
      go_wp2_with fail
      go_meet
      case rel => exact ⟨⟨0, 0⟩, ⟨0, 0⟩, 0, P4.out, K4.out, T4.out, G4.out, by simp⟩
    · have hk' : (k == 0) = false := by simp [hk]
      clear p0
      go_wp2_with fail
      refine (t_pointG g v _ _ _ (by omega) (by omega) (by omega) T4.out).mono ?_
      rintro e w5 ⟨px, py, rfl, pb, ht, hg⟩
      have T5 := Lib.hid ht
      have G5 := Lib.hid (grownBy_trans G4.out hg)
      have K5 := Lib.hid (has_grown K4.out hg HNE.out)
      have P5 := Lib.hid (has_grown P4.out hg NP.out.1)
      clear ht hg T4 G4 K4 P4
      go_wp2_with fail
      refine (t_pointG g v _ _ _ (by omega) (by omega) (by omega) T5.out).mono ?_
      rintro e w6 ⟨qx, qy, rfl, qb, ht, hg⟩
      have T6 := Lib.hid ht
      have G6 := Lib.hid (grownBy_trans G5.out hg)
      have K6 := Lib.hid (has_grown K5.out hg HNE.out)
      have P6 := Lib.hid (has_grown P5.out hg NP.out.1)
      clear ht hg T5 G5 K5 P5
      go_wp2_with fail
      refine (t_number g v _ _ _ (by omega) (by omega) (by omega) T6.out).mono ?_
      rintro e w7 ⟨r, rfl, r0, r1, ht, hg⟩
      have P7 := has_grown P6.out hg NP.out.1
      have K7 := has_grown K6.out hg HNE.out
      have G7 := grownBy_trans G6.out hg
      have hs : w7.grownBy (((((w7.setCell ⟨P, 9, none⟩ (.int .i64 px)).setCell ⟨P, 10, none⟩ (.int .i64 py)).setCell ⟨P, 11, none⟩ (.int .i64 qx)).setCell ⟨P, 12, none⟩ (.int .i64 qy)).setCell ⟨P, 13, none⟩ (.int .i64 r)) (some P) := grownBy_set (grownBy_set (grownBy_set (grownBy_set (grownBy_set (World.grownBy.refl _ _) _ _) _ _) _ _) _ _) _ _
      have R := Lib.hid (show Has (((((w7.setCell ⟨P, 9, none⟩ (.int .i64 px)).setCell ⟨P, 10, none⟩ (.int .i64 py)).setCell ⟨P, 11, none⟩ (.int .i64 qx)).setCell ⟨P, 12, none⟩ (.int .i64 qy)).setCell ⟨P, 13, none⟩ (.int .i64 r)) P (paC k a b ⟨px, py⟩ ⟨qx, qy⟩ r) 31 from has_set (has_set (has_set (has_set (has_set P7 9 _) 10 _) 11 _) 12 _) 13 _)
      have RB := Lib.hid (has_grown K7 hs (Ne.symm NP.out.2.1))
      have RT := Lib.hid (HT.out.young ht hs (fun k hk => by simp at hk; have := NP.out.2.2; omega))
      have RG := Lib.hid (grownBy_own G7 hs (fun k hk => by simp at hk; have := NP.out.2.2; omega))
      have c9 := P7.cell 9 _ rfl
      have c10 := P7.cell 10 _ rfl
      have c11 := P7.cell 11 _ rfl
      have c12 := P7.cell 12 _ rfl
      have c13 := P7.cell 13 _ rfl
      have fz := has_fro P7
      have BD : Hid (-262144 ≤ px ∧ px ≤ 851967 ∧ -262144 ≤ py ∧ py ≤ 851967 ∧ -262144 ≤ qx ∧ qx ≤ 851967 ∧ -262144 ≤ qy ∧ qy ≤ 851967 ∧ 0 ≤ r ∧ r ≤ 851967) := Lib.hid (by omega)
      clear ht hg T6 G6 K6 P6 P7 K7 G7 hs pb qb r0 r1
      go_wp2_with fail
      go_meet
      case rel => exact ⟨⟨px, py⟩, ⟨qx, qy⟩, r, R.out, RB.out, RT.out, RG.out, BD.out⟩
  case rest =>
    obtain ⟨p, q, r, hp, hbk, htp, hgr, bd⟩ := hcut
    have PX := has_setRow (cs := paC k a b p q r) hbk
    have TX : Tp (wc.setRow B (paC k a b p q r)) g v := HT.out.young htp (row := some B) ⟨rfl, rfl, rfl, by simp [World.setRow], fun j _ hj => setRow_other wc B j _ (fun e => hj (by rw [e]))⟩ (fun j hj => by simp at hj; omega)
    have GX : w.grownBy (wc.setRow B (paC k a b p q r)) (some g) := grownBy_own hgr (row := some B) ⟨rfl, rfl, rfl, by simp [World.setRow], fun j _ hj => setRow_other wc B j _ (fun e => hj (by rw [e]))⟩ (fun j hj => by simp at hj; omega)
    have R := Lib.hid (show Paints w g v (.returned (.agg (paC k a b p q r))) (wc.setRow B (paC k a b p q r)) from ⟨k, a, b, p, q, r, rfl, ⟨k0, by omega⟩, AO.out, BO.out, bd, TX, GX⟩)
    obtain ⟨X, hX⟩ : ∃ X, wc.setRow B (paC k a b p q r) = X := ⟨_, rfl⟩
    rw [hX] at PX R
    clear TX GX htp hgr bd
    go_upto_region 4 with fail
    apply wp_region_lit
    refine wpList_load_row rfl 31 _ rfl P rfl 31 _ (0, 0) _ hp Tryz.underlying31 rfl (by kernel_rfl) ?_
    refine wpList_store_row rfl 31 _ _ rfl B (paC k a b p q r) rfl rfl 31 _ hbk (by kernel_rfl) rfl (by kernel_rfl) ?_
    apply wpList_nil
    rw [hX]
    clear hX
    go_wp2_with fail
    refine bodyPost_ret (v := .agg (paC k a b p q r)) (results_cell_row rfl _ _ B 31 _ (0, 0) _ rfl PX Tryz.underlying31 rfl (by kernel_rfl)) rfl ?_
    exact R.out

end Go.Proofs.YtglbfpjjnboeaaaGreat

namespace Go.Proofs.YtglbfpjjnboeaaaGreat
open Go.RowKit
open M

set_option maxRecDepth 100000 in
set_option maxHeartbeats 2000000 in
theorem r8_keys {v : Value} {ks : List Pk} {w : World} (h : Kl w v ks) (hm : Mkd ks) :
    Calls Tryz.prog 32 #[v] w fun e w' => e = .returned (.bool (fitN ks ks.length)) ∧ Below w.heap.size w w' := by
  have hs := h
  obtain ⟨ao, cap, rfl, hf, _⟩ := h
  obtain ⟨N, hN⟩ : ∃ N, ks.length = N := ⟨_, rfl⟩
  have f4 : N ≤ 4 := by rw [← hN]; exact hm.few
  rw [hN] at hf hs ⊢
  have HS := Lib.hid hs
  have HN := Lib.hid hN
  have HM := Lib.hid hm
  obtain ⟨B, hB⟩ : ∃ B, w.heap.size = B := ⟨_, rfl⟩
  have HB := Lib.hid hB
  clear hs hN hm hB hf
  have o0 : (N : Int) ≤ 32 := by omega
  go_enter Tryz.func32, Tryz.ntmps32
  go_wp2
  go_loopw [3] (fun i wr => ∃ n : Nat, n ≤ N ∧ i = .int .i64 n ∧ fitN ks n = true ∧ Below B w wr) (fun i _ => N - (intOf i).toNat)
  case atStart => exact ⟨0, by omega, rfl, rfl, Below.refl _ _⟩
  case round =>
    obtain ⟨n, hn, rfl, hst, hb⟩ := hrel
    have HST := Lib.hid hst
    have HBD := Lib.hid hb
    have sz : Hid (B ≤ wr.heap.size) := Lib.hid (by have := hb.size; have := HB.out; omega)
    clear hst
    by_cases hlt : n < N
    · obtain ⟨g, o, e1, r0, l0⟩ := HS.out.row (by omega)
      have rr := r0.below hb (by have := r0.lt (by omega); have := HB.out; omega) (by have := HB.out; omega)
      subst e1
      have r' := fun z => rr.later (by omega) z
      have ok := HM.out.okP (i := n) (by omega)
      have nz := HM.out.pos (i := n) (by omega)
      have oh := HM.out.okHow (i := n) (by omega)
      have tk := HM.out.tick n (by omega)
      obtain ⟨f, hf⟩ : ∃ f, fits (pk ks 0).cl (pk ks 0).ps (pk ks n).cl (pk ks n).ps = f := ⟨_, rfl⟩
      have FF := Lib.hid hf
      have MV : Hid (∀ z : Later wr, Calls Tryz.prog 58 #[.int .i64 (pk ks n).t, .int .i64 (pk ks n).h, .agg #[.int .i64 (pk ks n).a, .int .i64 (pk ks n).b, .int .i64 (pk ks n).c, .int .i64 (pk ks n).d]] z.to fun e w'' => e = .returned (.bool true) ∧ Below z.to.heap.size z.to w'') := Lib.hid (fun z => by
        have h := r5_moves (pk ks n).t (pk ks n).h (pk ks n).a (pk ks n).b (pk ks n).c (pk ks n).d z.to
        rw [oh, show okIn (pk ks n).t 1073741824 = true by unfold okIn; simp; omega] at h
        exact h)
      have RT : Hid (∀ z : Later wr, Calls Tryz.prog 60 #[.agg #[.bool (pk ks n).cl, (pk ks n).v]] z.to fun e w'' => e = .returned (.bool true) ∧ Below z.to.heap.size z.to w'') := Lib.hid (fun z => by have h := r8_right (pk ks n).cl ((r' z).sl n (by omega)); rw [ok] at h; exact h)
      have FT : Hid (∀ z : Later wr, Calls Tryz.prog 61 #[.agg #[.bool (pk ks n).cl, (pk ks n).v], .agg #[.bool (pk ks 0).cl, (pk ks 0).v]] z.to fun e w'' => e = .returned (.bool f) ∧ Below z.to.heap.size z.to w'') := Lib.hid (fun z => by have h := r8_fits (pk ks n).cl (pk ks 0).cl ((r' z).sl n (by omega)) ((r' z).sl 0 (by omega)); rw [fits_comm, hf] at h; exact h)
      have hx : ∃ ao cap, (pk ks n).v = .slice ao (pk ks n).ps.length cap := by obtain ⟨a, b, c, _⟩ := rr.sl n (by omega); exact ⟨a, b, c⟩
      have h0 := (rr.sl 0 (by omega)).shape
      have c0 := fun z => (r' z).c0 n (by omega)
      have c1 := fun z => (r' z).c1 n (by omega)
      have c2 := fun z => (r' z).c2 n (by omega)
      have c3 := fun z => (r' z).c3 n (by omega)
      have c4 := fun z => (r' z).c4 n (by omega)
      have c5 := fun z => (r' z).c5 n (by omega)
      have c6 := fun z => (r' z).c6 n (by omega)
      have c7 := fun z => (r' z).c7 n (by omega)
      have b1 := fun z => (r' z).c1 0 (by omega)
      have b2 := fun z => (r' z).c2 0 (by omega)
      simp only [Nat.zero_mul, Nat.add_zero] at b1 b2
      have o1 : (n : Int) < N := by omega
      have oz : (0 : Int) < N := by omega
      have oy : 0 < N := by omega
      have EF : Hid (f = false → fitN ks N = false) := Lib.hid (fun e => fitN_off hlt (by rw [FF.out]; exact e))
      have NX : Hid (f = true → fitN ks (n + 1) = true) := Lib.hid (fun e => by unfold fitN; rw [HST.out, FF.out, e]; rfl)
      by_cases hz : n = 0
      · subst hz
        simp only [Nat.zero_mul, Nat.add_zero] at c0 c1 c2 c3 c4 c5 c6 c7
        obtain ⟨x, ex⟩ : ∃ x, pk ks 0 = x := ⟨_, rfl⟩
        rw [ex] at c0 c1 c2 c3 c4 c5 c6 c7 b1 b2 hx nz
        simp only [ex] at MV RT FT
        clear r' rr r0 l0 hb ok oh tk hf FF h0 HS ex b1 b2 o1
        obtain ⟨xt, xcl, xv, xps, xh, xa, xb, xcc, xd⟩ := x
        obtain ⟨xo, xc, e1⟩ := hx
        simp only at e1 nz
        subst e1
        obtain ⟨L, hL⟩ : ∃ L, xps.length = L := ⟨_, rfl⟩
        have nz1 : ((L : Int) == 0) = false := eqz (by omega)
        have nz2 : ¬ (L : Int) = 0 := by omega
        simp only [hL] at c2 RT FT
        clear nz hL
        cases f
        · have EG := Lib.hid (EF.out rfl)
          clear EF NX
          go_wp2_with fail
          refine wp_region_class (C := fun w' => ∃ z : Later wr, w' = z.to) (by kernel_rfl) (by kernel_rfl) ⟨⟨_, below_drew (Below.refl _ _)⟩, rfl⟩ ?_
          repeat (go_big_quiet_step (first | (go_at_call 58; exact Later.calls (MV.out _)) | (go_at_call 60; exact Later.calls (RT.out _)) | (go_at_call 61; exact Later.calls (FT.out _))))
          refine wpQuiet_nil ?_
          rintro _ ⟨z, rfl⟩
          go_wp2
          go_ret
          exact ⟨by rw [EG.out]; rfl, by rw [HB.out]; exact HBD.out.trans (z.below.mono sz.out)⟩
        · have NG := Lib.hid (NX.out rfl)
          clear EF NX
          go_wp2_with fail
          refine wp_region_class (C := fun w' => ∃ z : Later wr, w' = z.to) (by kernel_rfl) (by kernel_rfl) ⟨⟨_, below_drew (Below.refl _ _)⟩, rfl⟩ ?_
          repeat (go_big_quiet_step (first | (go_at_call 58; exact Later.calls (MV.out _)) | (go_at_call 60; exact Later.calls (RT.out _)) | (go_at_call 61; exact Later.calls (FT.out _))))
          refine wpQuiet_nil ?_
          rintro _ ⟨z, rfl⟩
          have Z := Lib.hid (HBD.out.trans (z.below.mono sz.out))
          obtain ⟨Y, hY⟩ : ∃ Y, z.to = Y := ⟨_, rfl⟩
          rw [hY] at Z ⊢
          clear hY c0 c1 c2 c3 c4 c5 c6 c7
          go_wp2
          go_roundw
          case rel => exact ⟨1, by omega, by go_num, NG.out, Z.out⟩
          case measure => simp [intOf]; omega
      · obtain ⟨m, hm⟩ : ∃ m : Nat, n = m + 1 := ⟨n - 1, by omega⟩
        have e1 : (n : Int) - 1 = (m : Int) := by omega
        have e2 : IntKind.i64.wrap ((n : Int) - 1) = (m : Int) := by rw [e1]; exact IntWalk.i64_in _ (by omega)
        have o2 : (m : Int) < N := by omega
        have o3 : 0 < n := by omega
        have d0 := fun z => (r' z).c0 m (by omega)
        have hup := HM.out.up m (by omega)
        rw [← hm] at hup
        obtain ⟨x, ex⟩ : ∃ x, pk ks n = x := ⟨_, rfl⟩
        obtain ⟨y, ey⟩ : ∃ x, pk ks 0 = x := ⟨_, rfl⟩
        obtain ⟨T, eT⟩ : ∃ T, (pk ks m).t = T := ⟨_, rfl⟩
        rw [ex] at c0 c1 c2 c3 c4 c5 c6 c7 hx nz hup
        rw [ey] at b1 b2 h0
        rw [eT] at d0 hup
        simp only [ex] at MV RT FT
        simp only [ey] at FT
        clear r' rr r0 l0 hb ok oh tk hf FF HS ex ey eT hm
        obtain ⟨xt, xcl, xv, xps, xh, xa, xb, xcc, xd⟩ := x
        obtain ⟨yt, ycl, yv, yps, yh, ya, yb, ycc, yd⟩ := y
        obtain ⟨xo, xc, ex1⟩ := hx
        obtain ⟨yo, yn, yc, ey1⟩ := h0
        simp only at ex1 nz ey1 hup
        subst ex1 ey1
        obtain ⟨L, hL⟩ : ∃ L, xps.length = L := ⟨_, rfl⟩
        have nz1 : ((L : Int) == 0) = false := eqz (by omega)
        have nz2 : ¬ (L : Int) = 0 := by omega
        simp only [hL] at c2 RT FT
        have hup2 : decide (xt ≤ T) = false := decide_eq_false (by omega)
        clear nz hL
        cases f
        · have EG := Lib.hid (EF.out rfl)
          clear EF NX
          go_wp2_with fail
          refine wp_region_class (C := fun w' => ∃ z : Later wr, w' = z.to) (by kernel_rfl) (by kernel_rfl) ⟨⟨_, below_drew (Below.refl _ _)⟩, rfl⟩ ?_
          repeat (go_big_quiet_step (first | (go_at_call 58; exact Later.calls (MV.out _)) | (go_at_call 60; exact Later.calls (RT.out _)) | (go_at_call 61; exact Later.calls (FT.out _))))
          refine wpQuiet_nil ?_
          rintro _ ⟨z, rfl⟩
          go_wp2
          go_ret
          exact ⟨by rw [EG.out]; rfl, by rw [HB.out]; exact HBD.out.trans (z.below.mono sz.out)⟩
        · have NG := Lib.hid (NX.out rfl)
          clear EF NX
          go_wp2_with fail
          refine wp_region_class (C := fun w' => ∃ z : Later wr, w' = z.to) (by kernel_rfl) (by kernel_rfl) ⟨⟨_, below_drew (Below.refl _ _)⟩, rfl⟩ ?_
          repeat (go_big_quiet_step (first | (go_at_call 58; exact Later.calls (MV.out _)) | (go_at_call 60; exact Later.calls (RT.out _)) | (go_at_call 61; exact Later.calls (FT.out _))))
          refine wpQuiet_nil ?_
          rintro _ ⟨z, rfl⟩
          have Z := Lib.hid (HBD.out.trans (z.below.mono sz.out))
          obtain ⟨Y, hY⟩ : ∃ Y, z.to = Y := ⟨_, rfl⟩
          rw [hY] at Z ⊢
          clear hY c0 c1 c2 c3 c4 c5 c6 c7 d0 b1 b2
          go_wp2
          go_roundw
          case rel => exact ⟨n + 1, by omega, by go_num, NG.out, Z.out⟩
          case measure => simp [intOf]; omega
    · obtain rfl : n = N := by omega
      have o1 : (n : Int) ≤ n := by omega
      clear hb
      go_wp2
      go_ret
      exact ⟨by rw [HST.out]; rfl, by rw [HB.out]; exact HBD.out⟩

/-- The share between two keys of a tape is what the document says. -/
theorem share_eq {x y : Pk} {t : Int} (hh : x.h = 0 ∨ x.h = 1) (h1 : x.t ≤ t) (h2 : ¬ y.t ≤ t) : atk [barev x 0, barev y 65536] t 0 = goes x.h x.a x.b x.c x.d (prt x.t y.t t) := by
  have e1 : ky [barev x 0, barev y 65536] 0 = barev x 0 := rfl
  have e2 : ky [barev x 0, barev y 65536] 1 = barev y 65536 := rfl
  have f : find [barev x 0, barev y 65536] t = 0 := by
    unfold find
    show findN _ t 2 = 0
    rw [findN_miss (by rw [e2]; exact h2), findN_hit (by rw [e1]; exact h1)]
    rfl
  unfold atk
  rw [f]
  rw [if_neg (by simp), if_neg (by decide), if_neg (by simp)]
  show tween (ky _ 0) (ky _ 1) t = _
  rw [e1, e2]
  unfold tween
  show mid 0 65536 (goes x.h x.a x.b x.c x.d (prt x.t y.t t)) = _
  have pb := prt_bd x.t y.t t
  have gb := goes_bd (h := x.h) (a := x.a) (b := x.b) (c := x.c) (d := x.d) (by omega) (by omega) pb.1 pb.2
  rw [mid_small (by omega) (by omega) (by omega) (by omega) gb.1 gb.2]
  omega
theorem find_hit {ks : List Ky} {t : Int} {n i : Nat} (h : findN ks t n = (i : Int)) : (ky ks i).t ≤ t ∧ ∀ j, i < j → j < n → ¬ (ky ks j).t ≤ t := by
  induction n with
  | zero => exfalso; unfold findN at h; omega
  | succ n ih =>
    by_cases hc : (ky ks n).t ≤ t
    · rw [findN_hit hc] at h
      have e : n = i := by omega
      subst e
      exact ⟨hc, fun j h1 h2 => by omega⟩
    · rw [findN_miss hc] at h
      obtain ⟨a, b⟩ := ih h
      refine ⟨a, fun j h1 h2 => ?_⟩
      by_cases e : j = n
      · subst e; exact hc
      · exact b j h1 (by omega)
theorem Mkd.same {ks : List Pk} (h : Mkd ks) (t : Int) : atps ks t = ratps ks t := by
  by_cases h0 : ks.length = 0
  · unfold atps ratps; rw [if_pos h0, if_pos h0]
  · have self : ∀ i, i < ks.length → morph (pk ks i).cl (pk ks i).ps (pk ks i).cl (pk ks i).ps 0 = (pk ks i).ps := fun i hi => by
      rw [morph_yes (by rw [fits_eq rfl]; simp)]
      exact midL_zero (h.small i hi) (h.small i hi) rfl
    rcases atp_cases ks t (by omega) with ⟨f1, _, f3⟩ | ⟨i, f1, f4, _, f3⟩ | ⟨i, f1, f4, _, f3⟩
    · rcases ratp_cases ks t (by omega) with ⟨g1, _, g3⟩ | ⟨j, g1, g4, _, g3⟩ | ⟨j, g1, g4, _, g3⟩
      · rw [f3, g3, self 0 (by omega)]
      · omega
      · omega
    · rcases ratp_cases ks t (by omega) with ⟨g1, _, g3⟩ | ⟨j, g1, g4, _, g3⟩ | ⟨j, g1, g4, _, g3⟩
      · omega
      · have e : i = j := by omega
        subst e
        rw [f3, g3, self i (by omega)]
      · omega
    · rcases ratp_cases ks t (by omega) with ⟨g1, _, g3⟩ | ⟨j, g1, g4, _, g3⟩ | ⟨j, g1, g4, _, g3⟩
      · omega
      · omega
      · have e : i = j := by omega
        subst e
        have hh := f1
        unfold find at hh
        rw [barep_length] at hh
        obtain ⟨a, b⟩ := find_hit hh
        have b1 := b (i + 1) (by omega) f4
        rw [ky_barep (by omega)] at a b1
        rw [f3, g3, share_eq (h.how i (by omega)) a b1]
theorem atps_few {ks : List Pk} (h : Mkd ks) (t : Int) : (atps ks t).length ≤ 8796093022208 := by
  by_cases h0 : ks.length = 0
  · unfold atps; rw [if_pos h0]; simp
  · rcases atp_cases ks t (by omega) with ⟨f1, _, f3⟩ | ⟨i, f1, f4, _, f3⟩ | ⟨i, f1, f4, _, f3⟩
    · rw [f3]; have := (h.pos (i := 0) (by omega)).2; omega
    · rw [f3]; have := (h.pos (i := i) (by omega)).2; omega
    · rw [f3, morph_length]; have := (h.pos (i := i) (by omega)).2; omega
theorem same_d (c : Bool) (ps : List Pt) : ((c == c) && decide (ps = ps)) = true := by simp

end Go.Proofs.YtglbfpjjnboeaaaGreat

namespace Go.Proofs.YtglbfpjjnboeaaaGreat
namespace M

theorem mul_box {x y X L U : Int} (x0 : 0 ≤ x) (x1 : x ≤ X) (hX : X ≤ 1000000) (y0 : L ≤ y) (y1 : y ≤ U) (L0 : L ≤ 0) (U0 : 0 ≤ U) (hL : -1000000 ≤ L) (hU : U ≤ 1000000) : X * L / 65536 ≤ mul x y ∧ mul x y ≤ X * U / 65536 := by
  have X0 : 0 ≤ X := by omega
  have p1 : x * y ≤ x * U := Int.mul_le_mul_of_nonneg_left y1 x0
  have p2 : x * U ≤ X * U := Int.mul_le_mul_of_nonneg_right x1 U0
  have p3 : x * L ≤ x * y := Int.mul_le_mul_of_nonneg_left y0 x0
  have p4 : X * L ≤ x * L := Int.mul_le_mul_of_nonpos_right x1 L0
  have p5 : X * U ≤ 1000000 * 1000000 := Int.mul_le_mul hX hU U0 (by omega)
  have p6 : 1000000 * (-1000000) ≤ X * L := by
    have a : X * (-1000000) ≤ X * L := Int.mul_le_mul_of_nonneg_left hL X0
    have b : 1000000 * (-1000000) ≤ X * (-1000000) := by omega
    omega
  unfold mul
  rw [hold_in (a := x) (by omega) (by omega), hold_in (a := y) (by omega) (by omega), hold_in (by omega) (by omega)]
  omega
theorem add_plain {x y : Int} (x0 : -1000000000 ≤ x) (x1 : x ≤ 1000000000) (y0 : -1000000000 ≤ y) (y1 : y ≤ 1000000000) : add x y = x + y := by
  unfold add
  rw [hold_in (a := x) (by omega) (by omega), hold_in (a := y) (by omega) (by omega), hold_in (by omega) (by omega)]
/-- A curve whose heights may be goes no further than twenty times One. -/
theorem bend_wide {a b : Int} (a0 : -131072 ≤ a) (a1 : a ≤ 196608) (b0 : -131072 ≤ b) (b1 : b ≤ 196608) (t : Int) : -1310720 ≤ bend a b t ∧ bend a b t ≤ 1310720 := by
  unfold bend bendc
  obtain ⟨u, hu⟩ : ∃ u, clamp t 0 65536 = u := ⟨_, rfl⟩
  have u0 : 0 ≤ u ∧ u ≤ 65536 := by rw [← hu]; unfold clamp; split <;> (try split) <;> omega
  rw [hu]
  have m1 := mul_box (x := 65536 - u) (y := 65536 - u) (X := 65536) (L := 0) (U := 65536) (by omega) (by omega) (by omega) (by omega) (by omega) (by omega) (by omega) (by omega) (by omega)
  have m2 := mul_box (x := mul (65536 - u) (65536 - u)) (y := u) (X := 65536) (L := 0) (U := 65536) (by omega) (by omega) (by omega) (by omega) (by omega) (by omega) (by omega) (by omega) (by omega)
  have m3 := mul_box (x := 65536 - u) (y := u) (X := 65536) (L := 0) (U := 65536) (by omega) (by omega) (by omega) (by omega) (by omega) (by omega) (by omega) (by omega) (by omega)
  have m4 := mul_box (x := mul (65536 - u) u) (y := u) (X := 65536) (L := 0) (U := 65536) (by omega) (by omega) (by omega) (by omega) (by omega) (by omega) (by omega) (by omega) (by omega)
  have m5 := mul_box (x := u) (y := u) (X := 65536) (L := 0) (U := 65536) (by omega) (by omega) (by omega) (by omega) (by omega) (by omega) (by omega) (by omega) (by omega)
  have m6 := mul_box (x := mul u u) (y := u) (X := 65536) (L := 0) (U := 65536) (by omega) (by omega) (by omega) (by omega) (by omega) (by omega) (by omega) (by omega) (by omega)
  have m7 := mul_box (x := 3 * mul (mul (65536 - u) (65536 - u)) u) (y := a) (X := 196608) (L := -131072) (U := 196608) (by omega) (by omega) (by omega) (by omega) (by omega) (by omega) (by omega) (by omega) (by omega)
  have m8 := mul_box (x := 3 * mul (mul (65536 - u) u) u) (y := b) (X := 196608) (L := -131072) (U := 196608) (by omega) (by omega) (by omega) (by omega) (by omega) (by omega) (by omega) (by omega) (by omega)
  rw [add_plain (x := mul (3 * mul (mul (65536 - u) (65536 - u)) u) a) (by omega) (by omega) (by omega) (by omega), add_plain (by omega) (by omega) (by omega) (by omega)]
  omega
theorem curve_wide {a b c d : Int} (h : okE a b c d = true) (p : Int) : -1310720 ≤ curve a b c d p ∧ curve a b c d p ≤ 1310720 := by
  unfold okE okV at h
  simp at h
  unfold curve
  split
  · omega
  · split
    · omega
    · exact bend_wide (by omega) (by omega) (by omega) (by omega) _
theorem goes_wide {h a b c d p : Int} (ok : okHow h a b c d = true) (p0 : 0 ≤ p) (p1 : p ≤ 65536) : -1310720 ≤ goes h a b c d p ∧ goes h a b c d p ≤ 1310720 := by
  unfold goes
  split
  · split <;> omega
  · split
    · omega
    · split
      · rename_i h2
        unfold okHow at ok
        rw [if_neg (by omega), if_pos h2] at ok
        exact curve_wide ok p
      · omega

end M
end Go.Proofs.YtglbfpjjnboeaaaGreat

namespace Go.Proofs.YtglbfpjjnboeaaaGreat
open Go.RowKit
open M

/-- Keys of paths as a tape's Shape makes them. -/
structure Mk2 (ks : List Pk) : Prop where
  few : ks.length ≤ 3
  how : ∀ i, i < ks.length → okHow (pk ks i).h (pk ks i).a (pk ks i).b (pk ks i).c (pk ks i).d = true
  tick : ∀ i, i < ks.length → 0 ≤ (pk ks i).t ∧ (pk ks i).t ≤ 59
  up : ∀ i, i + 1 < ks.length → (pk ks i).t < (pk ks (i + 1)).t
  small : ∀ i, i < ks.length → Small (pk ks i).ps
  form : ∀ i, i < ks.length → ∃ n, 1 ≤ n ∧ n ≤ 6 ∧ (pk ks i).ps.length = 3 * n + 1
  fit : ∀ i, i < ks.length → fits (pk ks 0).cl (pk ks 0).ps (pk ks i).cl (pk ks i).ps = true
theorem Mk2.nil : Mk2 [] := ⟨by simp, fun i hi => by simp at hi, fun i hi => by simp at hi, fun i hi => by simp at hi, fun i hi => by simp at hi, fun i hi => by simp at hi, fun i hi => by simp at hi⟩
theorem Mk2.okP {ks : List Pk} (h : Mk2 ks) {i : Nat} (hi : i < ks.length) : okP (pk ks i).cl (pk ks i).ps = true := by
  obtain ⟨n, n1, n2, hl⟩ := h.form i hi
  rw [okP_pos (by omega), (h.small i hi).near]
  simp [okLen]
  omega
theorem Mk2.pos {ks : List Pk} (h : Mk2 ks) {i : Nat} (hi : i < ks.length) : 0 < (pk ks i).ps.length ∧ (pk ks i).ps.length ≤ 19 := by
  obtain ⟨n, n1, n2, hl⟩ := h.form i hi
  omega
theorem Mk2.rightN {ks : List Pk} (h : Mk2 ks) : ∀ n, n ≤ ks.length → M.rightN (barep ks) n = true
  | 0, _ => rfl
  | n + 1, hn => by
    have hi : n < ks.length := by omega
    have t1 := h.tick n hi
    unfold M.rightN
    rw [h.rightN n (by omega), ky_barep hi]
    have e : okK (barev (pk ks n) 0) = true := by
      unfold okK barev okIn
      simp only [h.how n hi]
      simp
      omega
    rw [e]
    by_cases e0 : n = 0
    · simp [e0]
    · rw [ky_barep (by omega)]
      have := h.up (n - 1) (by omega)
      rw [show n - 1 + 1 = n by omega] at this
      have e2 : decide ((barev (pk ks (n - 1)) 0).t < (barev (pk ks n) 0).t) = true := decide_eq_true this
      rw [e2]
      simp
theorem Mk2.right {ks : List Pk} (h : Mk2 ks) : M.right (barep ks) = true := by
  unfold M.right
  rw [barep_length, h.rightN _ (Nat.le_refl _)]
  have := h.few
  simp
  omega
theorem Mk2.allN {ks : List Pk} (h : Mk2 ks) : ∀ n, n ≤ ks.length → allN ks n = true
  | 0, _ => rfl
  | n + 1, hn => by
    have hi : n < ks.length := by omega
    have := (h.pos hi).1
    unfold Go.Proofs.YtglbfpjjnboeaaaGreat.allN
    rw [h.allN n (by omega), h.okP hi, h.fit n hi]
    simp
    intro e
    rw [e] at this
    simp at this
theorem Mk2.keys {ks : List Pk} (h : Mk2 ks) : keysOk ks = true := by
  unfold keysOk
  rw [h.right, h.allN _ (Nat.le_refl _)]
  rfl
/-- What lies between two numbers, by a share of twenty times One at most. -/
theorem mid_wide {x y k : Int} (x1 : -131072 ≤ x) (x2 : x ≤ 983039) (y1 : -131072 ≤ y) (y2 : y ≤ 983039) (k1 : -1310720 ≤ k) (k2 : k ≤ 1310720) :
    -33554432 ≤ mid x y k ∧ mid x y k ≤ 33554432 := by
  have b := prod_bound (x := y - x) (y := k) (b := 1114111) (c := 1310720) (by omega) (by omega) (by omega) (by omega)
  have e1 : add y (-(hold x)) = y - x := by
    unfold add; rw [hold_in (a := x) (by omega) (by omega), hold_in (a := y) (by omega) (by omega), hold_in (a := -x) (by omega) (by omega), hold_in (by omega) (by omega)]; omega
  have e2 : mul (y - x) k = (y - x) * k / 65536 := by
    unfold mul; rw [hold_in (a := y - x) (by omega) (by omega), hold_in (a := k) (by omega) (by omega)]
    generalize (y - x) * k = p at *
    exact hold_in (by omega) (by omega)
  unfold mid; rw [e1, e2]
  generalize (y - x) * k = p at *
  unfold add; rw [hold_in (a := x) (by omega) (by omega), hold_in (a := p / 65536) (by omega) (by omega), hold_in (by omega) (by omega)]
  omega
/-- Half a share is a share: what lies k of One between 0 and One is k. -/
theorem mid_self {k : Int} (k1 : -1310720 ≤ k) (k2 : k ≤ 1310720) : mid 0 65536 k = k := by
  have h0 : hold 0 = 0 := hold_in (by omega) (by omega)
  unfold mid
  rw [h0]
  have e1 : add 65536 (-0) = 65536 := by
    unfold add; rw [hold_in (a := 65536) (by omega) (by omega), hold_in (a := -0) (by omega) (by omega), hold_in (by omega) (by omega)]; omega
  rw [e1]
  have e2 : mul 65536 k = k := by
    unfold mul; rw [hold_in (a := 65536) (by omega) (by omega), hold_in (a := k) (by omega) (by omega), hold_in (by omega) (by omega)]; omega
  rw [e2]
  unfold add; rw [h0, hold_in (a := k) (by omega) (by omega), hold_in (by omega) (by omega)]; omega
theorem share_wide {x y : Pk} {t : Int} (ok : okHow x.h x.a x.b x.c x.d = true) (h1 : x.t ≤ t) (h2 : ¬ y.t ≤ t) : atk [barev x 0, barev y 65536] t 0 = goes x.h x.a x.b x.c x.d (prt x.t y.t t) := by
  have e1 : ky [barev x 0, barev y 65536] 0 = barev x 0 := rfl
  have e2 : ky [barev x 0, barev y 65536] 1 = barev y 65536 := rfl
  have f : find [barev x 0, barev y 65536] t = 0 := by
    unfold find
    show findN _ t 2 = 0
    rw [findN_miss (by rw [e2]; exact h2), findN_hit (by rw [e1]; exact h1)]
    rfl
  unfold atk
  rw [f]
  rw [if_neg (by simp), if_neg (by decide), if_neg (by simp)]
  show tween (ky _ 0) (ky _ 1) t = _
  rw [e1, e2]
  unfold tween
  show mid 0 65536 (goes x.h x.a x.b x.c x.d (prt x.t y.t t)) = _
  have pb := prt_bd x.t y.t t
  have gb := goes_wide ok pb.1 pb.2
  exact mid_self gb.1 gb.2
theorem Mk2.self {ks : List Pk} (h : Mk2 ks) {i : Nat} (hi : i < ks.length) : morph (pk ks i).cl (pk ks i).ps (pk ks i).cl (pk ks i).ps 0 = (pk ks i).ps := by
  rw [morph_yes (by rw [fits_eq rfl]; simp)]
  exact midL_zero (h.small i hi) (h.small i hi) rfl
theorem Mk2.share {ks : List Pk} (h : Mk2 ks) {t : Int} {i : Nat} (f1 : find (barep ks) t = i) (f4 : i + 1 < ks.length) :
    atk [barev (pk ks i) 0, barev (pk ks (i + 1)) 65536] t 0 = goes (pk ks i).h (pk ks i).a (pk ks i).b (pk ks i).c (pk ks i).d (prt (pk ks i).t (pk ks (i + 1)).t t) := by
  have hh := f1
  unfold find at hh
  rw [barep_length] at hh
  obtain ⟨a, b⟩ := find_hit hh
  have b1 := b (i + 1) (by omega) f4
  rw [ky_barep (by omega)] at a b1
  exact share_wide (h.how i (by omega)) a b1
theorem Mk2.same {ks : List Pk} (h : Mk2 ks) (t : Int) : atps ks t = ratps ks t := by
  by_cases h0 : ks.length = 0
  · unfold atps ratps; rw [if_pos h0, if_pos h0]
  · rcases atp_cases ks t (by omega) with ⟨f1, _, f3⟩ | ⟨i, f1, f4, _, f3⟩ | ⟨i, f1, f4, _, f3⟩
    · rcases ratp_cases ks t (by omega) with ⟨g1, _, g3⟩ | ⟨j, g1, g4, _, g3⟩ | ⟨j, g1, g4, _, g3⟩
      · rw [f3, g3, h.self (by omega)]
      · omega
      · omega
    · rcases ratp_cases ks t (by omega) with ⟨g1, _, g3⟩ | ⟨j, g1, g4, _, g3⟩ | ⟨j, g1, g4, _, g3⟩
      · omega
      · have e : i = j := by omega
        subst e
        rw [f3, g3, h.self (by omega)]
      · omega
    · rcases ratp_cases ks t (by omega) with ⟨g1, _, g3⟩ | ⟨j, g1, g4, _, g3⟩ | ⟨j, g1, g4, _, g3⟩
      · omega
      · omega
      · have e : i = j := by omega
        subst e
        rw [f3, g3, h.share f1 f4]
/-- Its path at any tick may be, and is not empty. -/
theorem Mk2.path {ks : List Pk} (h : Mk2 ks) (h0 : 0 < ks.length) (t : Int) : M.okP (atcl ks t) (atps ks t) = true ∧ 0 < (atps ks t).length ∧ (atps ks t).length ≤ 19 := by
  rcases atp_cases ks t h0 with ⟨f1, f2, f3⟩ | ⟨i, f1, f4, f2, f3⟩ | ⟨i, f1, f4, f2, f3⟩
  · rw [f2, f3]; exact ⟨h.okP h0, h.pos h0⟩
  · rw [f2, f3]; exact ⟨h.okP (by omega), h.pos (by omega)⟩
  · have hp := h.pos (i := i) (by omega)
    rw [f2, f3, morph_length]
    refine ⟨?_, hp⟩
    have pb := prt_bd (pk ks i).t (pk ks (i + 1)).t t
    have gb := goes_wide (h.how i (by omega)) pb.1 pb.2
    rw [h.share f1 f4]
    obtain ⟨g, hg⟩ : ∃ g, goes (pk ks i).h (pk ks i).a (pk ks i).b (pk ks i).c (pk ks i).d (prt (pk ks i).t (pk ks (i + 1)).t t) = g := ⟨_, rfl⟩
    rw [hg] at gb ⊢
    obtain ⟨n, n1, n2, hl⟩ := h.form i (by omega)
    have hf := h.okP (i := i) (by omega)
    have fi := h.fit i (by omega)
    have fj := h.fit (i + 1) f4
    have hll : (pk ks i).ps.length = (pk ks (i + 1)).ps.length := by
      unfold fits at fi fj
      simp at fi fj
      omega
    unfold morph
    split
    · rw [okP_pos (by rw [midL_length]; omega), midL_length]
      have o : okLen (pk ks i).ps.length = true := by rw [hl]; simp [okLen]; omega
      rw [o, Bool.true_and]
      apply nearL_all
      intro j hj
      rw [pt_midL hj]
      have p1 := h.small i (by omega) j hj
      have p2 := h.small (i + 1) f4 j (by omega)
      have m1 := mid_wide (k := g) p1.1 p1.2.1 p2.1 p2.2.1 gb.1 gb.2
      have m2 := mid_wide (k := g) p1.2.2.1 p1.2.2.2 p2.2.2.1 p2.2.2.2 gb.1 gb.2
      unfold midP nearP nearN
      simp
      omega
    · exact hf

end Go.Proofs.YtglbfpjjnboeaaaGreat

namespace Go.Proofs.YtglbfpjjnboeaaaGreat
open Go Go.RowKit
open M

theorem Sl.blocks {w w' : World} {v : Value} {ks : List Ky} (h : Sl w v ks) (hb : ∀ k, k < w.heap.size → v.ownBlock = some k → w'.heap[k]? = w.heap[k]?) : Sl w' v ks := by
  rcases h with h | ⟨h0, g, o, cap, rfl, hr⟩
  · exact Or.inl h
  · have e := hb g (hr.lt h0) rfl
    have c : ∀ {j u}, w.cell? ⟨g, j, none⟩ = some u → w'.cell? ⟨g, j, none⟩ = some u := fun hu => (World.cell?_of_block (a := ⟨g, _, _⟩) e).trans hu
    exact Or.inr ⟨h0, g, o, cap, rfl, ⟨hr.few, fun i hi => c (hr.c0 i hi), fun i hi => c (hr.c1 i hi), fun i hi => c (hr.c2 i hi), fun i hi => c (hr.c3 i hi), fun i hi => c (hr.c4 i hi), fun i hi => c (hr.c5 i hi), fun i hi => c (hr.c6 i hi)⟩⟩
theorem Kl.blocks {w w' : World} {v : Value} {ks : List Pk} (h : Kl w v ks) (hb : ∀ k, k < w.heap.size → v.ownBlock = some k → w'.heap[k]? = w.heap[k]?)
    (hp : ∀ i, i < ks.length → ∀ k, k < w.heap.size → (pk ks i).v.ownBlock = some k → w'.heap[k]? = w.heap[k]?) : Kl w' v ks := by
  obtain ⟨ao, cap, rfl, hf, hr⟩ := h
  refine ⟨ao, cap, rfl, hf, fun h0 => ?_⟩
  obtain ⟨g, o, rfl, hq⟩ := hr h0
  have e := hb g (hq.lt h0) rfl
  have c : ∀ {j u}, w.cell? ⟨g, j, none⟩ = some u → w'.cell? ⟨g, j, none⟩ = some u := fun hu => (World.cell?_of_block (a := ⟨g, _, _⟩) e).trans hu
  exact ⟨g, o, rfl, ⟨hq.few, fun i hi => (hq.sl i hi).blocks (hp i hi), fun i hi => c (hq.c0 i hi), fun i hi => c (hq.c1 i hi), fun i hi => c (hq.c2 i hi), fun i hi => c (hq.c3 i hi), fun i hi => c (hq.c4 i hi), fun i hi => c (hq.c5 i hi), fun i hi => c (hq.c6 i hi), fun i hi => c (hq.c7 i hi)⟩⟩
theorem Csl.blocks {w w' : World} {v : Value} {ks : List Ck} (h : Csl w v ks) (hb : ∀ k, k < w.heap.size → v.ownBlock = some k → w'.heap[k]? = w.heap[k]?) : Csl w' v ks := by
  rcases h with h | ⟨h0, g, o, cap, rfl, hr⟩
  · exact Or.inl h
  · have e := hb g (hr.lt h0) rfl
    have c : ∀ {j u}, w.cell? ⟨g, j, none⟩ = some u → w'.cell? ⟨g, j, none⟩ = some u := fun hu => (World.cell?_of_block (a := ⟨g, _, _⟩) e).trans hu
    exact Or.inr ⟨h0, g, o, cap, rfl, ⟨hr.few, hr.ok, fun i hi => c (hr.c0 i hi), fun i hi => c (hr.c1 i hi), fun i hi => c (hr.c2 i hi), fun i hi => c (hr.c3 i hi), fun i hi => c (hr.c4 i hi), fun i hi => c (hr.c5 i hi), fun i hi => c (hr.c6 i hi), fun i hi => c (hr.c7 i hi), fun i hi => c (hr.c8 i hi), fun i hi => c (hr.c9 i hi)⟩⟩

/-- A list's block lies behind A and ahead of M, if it has one. -/
def Btw (A M : Nat) (v : Value) : Prop := ∀ k, v.ownBlock = some k → A < k ∧ k < M
theorem Btw.nil (A M : Nat) (n c : Nat) : Btw A M (.slice none n c) := fun k h => by cases h
theorem Btw.up {A M M' : Nat} {v : Value} (h : Btw A M v) (hm : M ≤ M') : Btw A M' v := fun k hk => ⟨(h k hk).1, by have := (h k hk).2; omega⟩

/-- Its lists lie there, each in a block behind A and ahead of M. -/
structure Lsts (A M : Nat) (s : Shp) (W : World) : Prop where
  lie : ShIn W s
  bW : Btw A M s.vW
  bH : Btw A M s.vH
  bP : Btw A M s.vP
  bp : ∀ i, i < s.P.length → Btw A M (pk s.P i).v
  bC : Btw A M s.vC
  bWd : Btw A M s.vWd
  bD : Btw A M s.vD
  bF : Btw A M s.vF
  bT : Btw A M s.vT
theorem Lsts.up {A M M' : Nat} {s : Shp} {W : World} (h : Lsts A M s W) (hm : M ≤ M') : Lsts A M' s W :=
  ⟨h.lie, h.bW.up hm, h.bH.up hm, h.bP.up hm, fun i hi => (h.bp i hi).up hm, h.bC.up hm, h.bWd.up hm, h.bD.up hm, h.bF.up hm, h.bT.up hm⟩
theorem Lsts.kept {A M : Nat} {s : Shp} {W W' : World} (h : Lsts A M s W) (hb : ∀ k, k < W.heap.size → A < k → k < M → W'.heap[k]? = W.heap[k]?) : Lsts A M s W' := by
  have e : ∀ {v : Value}, Btw A M v → ∀ k, k < W.heap.size → v.ownBlock = some k → W'.heap[k]? = W.heap[k]? := fun b k hk hv => hb k hk (b k hv).1 (b k hv).2
  exact ⟨⟨h.lie.W.blocks (e h.bW), h.lie.H.blocks (e h.bH), h.lie.P.blocks (e h.bP) (fun i hi => e (h.bp i hi)), h.lie.C.blocks (e h.bC), h.lie.Wd.blocks (e h.bWd), h.lie.D.blocks (e h.bD), h.lie.F.blocks (e h.bF), h.lie.T.blocks (e h.bT)⟩,
    h.bW, h.bH, h.bP, h.bp, h.bC, h.bWd, h.bD, h.bF, h.bT⟩

/-- The tape v in block g, the shape s in the making in block A, its lists ahead of M; of w the tape alone has turned. -/
structure TSh (w : World) (g : Nat) (v : Value) (A M : Nat) (s : Shp) (W : World) : Prop where
  tape : Tp W g v
  grown : w.grownBy W (some g)
  has : Has W A (shC s) 34
  ga : g < w.heap.size ∧ w.heap.size ≤ A
  am : A < M ∧ M ≤ W.heap.size
  lsts : Lsts A M s W
/-- A tape's call. -/
theorem TSh.call {w : World} {g : Nat} {v : Value} {A M : Nat} {s : Shp} {W W2 : World} (h : TSh w g v A M s W) (ht : Tp W2 g v) (hg : W.grownBy W2 (some g)) : TSh w g v A M s W2 := by
  have a := h.ga
  have b := h.am
  have z := hg.size
  exact ⟨ht, grownBy_trans h.grown hg, has_grown h.has hg (by omega), h.ga, ⟨b.1, by omega⟩, h.lsts.kept (fun k hk k1 k2 => hg.block k hk (fun e => by simp at e; omega))⟩
/-- Something made, or a block from M on turned. -/
theorem TSh.step {w w0 : World} {g : Nat} {v : Value} {A M : Nat} {s : Shp} {W W2 : World} {row : Option Nat} (h0 : Tp w0 g v) (hz : w0.heap.size ≤ M) (h : TSh w g v A M s W) (hg : W.grownBy W2 row) (hr : ∀ k, row = some k → M ≤ k) : TSh w g v A M s W2 := by
  have a := h.ga
  have b := h.am
  have z := hg.size
  refine ⟨h0.young h.tape hg (fun k hk => by have := hr k hk; omega), grownBy_own h.grown hg (fun k hk => by have := hr k hk; omega), (hg.block A h.has.lt (fun e => by have := hr A e.symm; omega)).trans h.has, h.ga, ⟨b.1, by omega⟩, h.lsts.kept (fun k hk k1 k2 => hg.block k hk (fun e => by have := hr k e.symm; omega))⟩
theorem TSh.alloc {w : World} {g : Nat} {v : Value} {A M : Nat} {s : Shp} {W : World} (h : TSh w g v A M s W) (o : Obj) : TSh w g v A M s (W.alloc o) := by
  have b := h.am
  exact ⟨tp_alloc h.tape o, grownBy_own h.grown (World.grownBy_alloc W o none) (fun k hk => by cases hk), h.has.alloc o, h.ga, ⟨b.1, by simp; omega⟩, h.lsts.kept (fun k hk _ _ => (MapKept.heap_alloc W o).2 k hk)⟩
theorem TSh.up {w : World} {g : Nat} {v : Value} {A M M' : Nat} {s : Shp} {W : World} (h : TSh w g v A M s W) (hm : M ≤ M') (hz : M' ≤ W.heap.size) : TSh w g v A M' s W := by
  have b := h.am
  exact ⟨h.tape, h.grown, h.has, h.ga, ⟨by omega, hz⟩, h.lsts.up hm⟩
/-- A store into the shape's own block. -/
theorem TSh.put {w : World} {g : Nat} {v : Value} {A M : Nat} {s s' : Shp} {W : World} (hw : Tp w g v) (h : TSh w g v A M s W) (j : Nat) (u : Value) (hs : (shC s).setIfInBounds j u = shC s') (hl : Lsts A M s' W) : TSh w g v A M s' (W.setCell ⟨A, j, none⟩ u) := by
  have a := h.ga
  have b := h.am
  have hg : W.grownBy (W.setCell ⟨A, j, none⟩ u) (some A) := grownBy_set (World.grownBy.refl _ _) _ _
  exact ⟨hw.young h.tape hg (fun k hk => by simp at hk; omega), grownBy_own h.grown hg (fun k hk => by simp at hk; omega), by rw [← hs]; exact has_set h.has j u, h.ga, ⟨b.1, by simpa using b.2⟩, hl.kept (fun k hk k1 k2 => hg.block k hk (fun e => by simp at e; omega))⟩

end Go.Proofs.YtglbfpjjnboeaaaGreat

namespace Go.Proofs.YtglbfpjjnboeaaaGreat
open Go.RowKit
open M

/-- Keys of a tape with one more at 60 behind them. -/
structure K60 (lo hi : Int) (ks : List Ky) : Prop where
  pos : 0 < ks.length
  few : ks.length ≤ 4
  right : M.right ks = true
  num : ∀ i, i < ks.length → lo * 65536 ≤ (ky ks i).v ∧ (ky ks i).v ≤ hi * 65536 + 65535
  how : ∀ i, i < ks.length → okHow (ky ks i).h (ky ks i).a (ky ks i).b (ky ks i).c (ky ks i).d = true
  tick : ∀ i, i < ks.length → 0 ≤ (ky ks i).t ∧ (ky ks i).t ≤ 60
theorem okK_how {k : Ky} (h : okK k = true) : okHow k.h k.a k.b k.c k.d = true := by
  unfold okK at h
  simp at h
  exact h.2
theorem rightN_each {ks : List Ky} : ∀ {n : Nat}, rightN ks n = true → ∀ i, i < n → okK (ky ks i) = true
  | 0, _, i, hi => by omega
  | n + 1, h, i, hi => by
    unfold rightN at h
    simp only [Bool.and_eq_true] at h
    by_cases e : i = n
    · subst e; exact h.1.2
    · exact rightN_each h.1.1 i (by omega)
theorem K60.of {lo hi : Int} {qs : List Ky} {A v : Int} (h : KeptG lo hi qs A) (hl : qs.length ≤ 3) (l0 : 0 ≤ lo) (h1 : hi ≤ 14) (v0 : lo * 65536 ≤ v) (v1 : v ≤ hi * 65536 + 65535) : K60 lo hi (qs ++ [Ky.mk 60 v 0 0 0 0 0]) := by
  have top := h.kept.top
  have ok : okK (Ky.mk 60 v 0 0 0 0 0) = true := okK_of2 (by omega) (by omega) (by omega) (by omega) rfl
  have rn : rightN (qs ++ [Ky.mk 60 v 0 0 0 0 0]) (qs.length + 1) = true := by
    unfold rightN
    rw [rightN_left (Nat.le_refl _), h.kept.right, ky_last, ok]
    by_cases e : qs.length = 0
    · simp [e]
    · rw [ky_left (by omega)]
      have := h.kept.last (by omega)
      simp
      omega
  have each : ∀ (P : Ky → Prop), (∀ i, i < qs.length → P (ky qs i)) → P (Ky.mk 60 v 0 0 0 0 0) → ∀ i, i < (qs ++ [Ky.mk 60 v 0 0 0 0 0]).length → P (ky (qs ++ [Ky.mk 60 v 0 0 0 0 0]) i) := by
    intro P h1 h2 i hi
    simp at hi
    by_cases e : i < qs.length
    · rw [ky_left e]; exact h1 i e
    · obtain rfl : i = qs.length := by omega
      rw [ky_last]; exact h2
  refine ⟨by simp, by simp; omega, ?_, each (fun k => lo * 65536 ≤ k.v ∧ k.v ≤ hi * 65536 + 65535) h.num (show lo * 65536 ≤ v ∧ v ≤ hi * 65536 + 65535 from ⟨v0, v1⟩), each (fun k => okHow k.h k.a k.b k.c k.d = true) (fun i hi => okK_how (rightN_each h.kept.right i hi)) rfl,
    each (fun k => 0 ≤ k.t ∧ k.t ≤ 60) (fun i hi => And.intro (h.tick i hi) (by have := h.ahead i hi; omega)) (by simp)⟩
  unfold M.right
  rw [List.length_append]
  show (_ && rightN _ (qs.length + 1)) = true
  rw [rn]
  simp
  omega
/-- What such keys tell at any tick is small. -/
theorem K60.tells {lo hi : Int} {ks : List Ky} (h : K60 lo hi ks) (l0 : 0 ≤ lo) (h1 : hi ≤ 14) (t : Int) : -33554432 ≤ atk ks t 0 ∧ atk ks t 0 ≤ 33554432 := by
  have hb := find_bd ks t
  have p := h.pos
  unfold atk
  rw [if_neg (by omega)]
  split
  · have := h.num 0 p; omega
  · obtain ⟨i, hi⟩ := Int.eq_ofNat_of_zero_le (show 0 ≤ find ks t by omega)
    rw [hi]
    split
    · have := h.num i (by omega); simp only [Int.toNat_natCast]; omega
    · simp only [Int.toNat_natCast]
      have a := h.num i (by omega)
      have b := h.num (i + 1) (by omega)
      unfold tween
      have pb := prt_bd (ky ks i).t (ky ks (i + 1)).t t
      have gb := goes_wide (h.how i (by omega)) pb.1 pb.2
      exact mid_wide (by omega) (by omega) (by omega) (by omega) gb.1 gb.2

end Go.Proofs.YtglbfpjjnboeaaaGreat

namespace Go.Proofs.YtglbfpjjnboeaaaGreat
open Go.RowKit
open M

theorem findN_none {ks : List Ky} {t : Int} : ∀ {n : Nat}, (∀ i, i < n → t < (ky ks i).t) → findN ks t n = -1
  | 0, _ => rfl
  | n + 1, h => by
    have := h n (by omega)
    rw [findN_miss (by omega)]
    exact findN_none fun i hi => h i (by omega)
theorem find_none {ks : List Ky} {t : Int} (h : ∀ i, i < ks.length → t < (ky ks i).t) : find ks t = -1 := findN_none h
theorem find_last {ks : List Ky} {t : Int} (h0 : 0 < ks.length) (h : (ky ks (ks.length - 1)).t ≤ t) : find ks t = (ks.length : Int) - 1 := by
  unfold find
  obtain ⟨n, hn⟩ : ∃ n, ks.length = n + 1 := ⟨ks.length - 1, by omega⟩
  rw [hn] at h ⊢
  rw [Nat.add_sub_cancel] at h
  rw [findN_hit h]
  omega
theorem K60.ahead {lo hi : Int} {ks : List Ky} (h : K60 lo hi ks) {s t : Int} (hs : s < 0) (ht : t < 0) : atk ks s 0 = atk ks t 0 := by
  have a := find_none (ks := ks) (t := s) (fun i hi => by have := (h.tick i hi).1; omega)
  have b := find_none (ks := ks) (t := t) (fun i hi => by have := (h.tick i hi).1; omega)
  unfold atk
  rw [a, b, if_pos (show (-1 : Int) < 0 by omega), if_pos (show (-1 : Int) < 0 by omega)]
theorem K60.behind {lo hi : Int} {ks : List Ky} (h : K60 lo hi ks) {s t : Int} (hs : 60 ≤ s) (ht : 60 ≤ t) : atk ks s 0 = atk ks t 0 := by
  have p := h.pos
  have q := (h.tick (ks.length - 1) (by omega)).2
  have a := find_last (t := s) p (by omega)
  have b := find_last (t := t) p (by omega)
  unfold atk
  rw [a, b, if_neg (by omega), if_neg (by omega), if_pos rfl, if_neg (by omega), if_neg (by omega), if_pos rfl]
theorem Mk2.ahead {ks : List Pk} (h : Mk2 ks) {s t : Int} (hs : s < 0) (ht : t < 0) : atps ks s = atps ks t ∧ atcl ks s = atcl ks t := by
  have f : ∀ u : Int, u < 0 → find (barep ks) u = -1 := fun u hu => find_none fun i hi => by
    rw [barep_length] at hi
    rw [ky_barep hi]
    have := (h.tick i hi).1
    show u < (pk ks i).t
    omega
  unfold atps atcl
  rw [f s hs, f t ht]
  exact ⟨rfl, rfl⟩
theorem Mk2.behind {ks : List Pk} (h : Mk2 ks) {s t : Int} (hs : 60 ≤ s) (ht : 60 ≤ t) : atps ks s = atps ks t ∧ atcl ks s = atcl ks t := by
  by_cases h0 : ks.length = 0
  · unfold atps atcl
    rw [if_pos h0, if_pos h0, if_pos h0, if_pos h0]
    exact ⟨rfl, rfl⟩
  · have f : ∀ u : Int, 60 ≤ u → find (barep ks) u = (ks.length : Int) - 1 := fun u hu => by
      have e := find_last (ks := barep ks) (t := u) (by rw [barep_length]; omega) (by
        rw [barep_length, ky_barep (by omega)]
        have := (h.tick (ks.length - 1) (by omega)).2
        show (pk ks (ks.length - 1)).t ≤ u
        omega)
      rw [barep_length] at e
      exact e
    unfold atps atcl
    rw [f s hs, f t ht]
    have n : ¬ ((ks.length : Int) - 1 < 0) := by omega
    simp only [if_neg h0, if_neg n, if_true, and_self]

end Go.Proofs.YtglbfpjjnboeaaaGreat

namespace Go.Proofs.YtglbfpjjnboeaaaGreat
open M

theorem strN_each {P : Pt → Prop} {ps : List Pt} (h : ∀ i, i < ps.length → P (pt ps i)) (h0 : 0 < ps.length) : ∀ n, n ≤ ps.length → ∀ q ∈ strN ps n, P q
  | 0, _, q, hq => by
    unfold strN at hq
    simp at hq
    rw [hq]; exact h 0 h0
  | n + 1, hn, q, hq => by
    unfold strN at hq
    simp only [List.mem_append, List.mem_cons, List.not_mem_nil, or_false] at hq
    have m := Nat.mod_lt (n + 1) h0
    rcases hq with hq | rfl | rfl | rfl
    · exact strN_each h h0 n (by omega) q hq
    · exact h n (by omega)
    · exact h _ m
    · exact h _ m
/-- A number that is near. -/
theorem near_mul {x k : Int} (x0 : -33554432 ≤ x) (x1 : x ≤ 33554432) (k0 : -65536 ≤ k) (k1 : k ≤ 65536) : -33554432 ≤ mul x k ∧ mul x k ≤ 33554432 := by
  have b := prod_bound (x := x) (y := k) (b := 33554432) (c := 65536) (by omega) (by omega) (by omega) (by omega)
  unfold mul
  rw [hold_in (a := x) (by omega) (by omega), hold_in (a := k) (by omega) (by omega)]
  generalize x * k = p at *
  rw [hold_in (by omega) (by omega)]
  omega
theorem okP_each {ps : List Pt} (hl : okLen ps.length = true) (h : ∀ q ∈ ps, nearP q = true) : okP true ps = true := by
  have h0 : ¬ ps.length = 0 := fun e => by rw [e] at hl; exact absurd hl (by decide)
  unfold okP
  rw [if_neg h0, hl, Bool.true_and]
  apply nearL_all
  intro i hi
  apply h
  have e : pt ps i = ps[i] := by unfold pt; simp [List.getD, hi]
  rw [e]
  exact List.getElem_mem hi
theorem near_of {p : Pt} (h : -33554433 ≤ p.x ∧ p.x ≤ 33554433 ∧ -33554433 ≤ p.y ∧ p.y ≤ 33554433) : nearP p = true := by
  simp [nearP, nearN]
  omega
theorem rect_ok {w h : Int} (w0 : -33554432 ≤ w) (w1 : w ≤ 33554432) (h0 : -33554432 ≤ h) (h1 : h ≤ 33554432) : okP true (rectL w h) = true := by
  apply okP_each
  · unfold rectL; rw [straightL_length]; simp [rectP, okLen]
  · intro q hq
    refine strN_each (P := fun q => nearP q = true) ?_ (by simp [rectP]) _ (Nat.le_refl _) q hq
    intro i hi
    simp [rectP] at hi
    rcases (show i = 0 ∨ i = 1 ∨ i = 2 ∨ i = 3 by omega) with rfl | rfl | rfl | rfl <;> (apply near_of; simp [rectP, pt]; omega)
theorem oval_ok {w h : Int} (w0 : -33554432 ≤ w) (w1 : w ≤ 33554432) (h0 : -33554432 ≤ h) (h1 : h ≤ 33554432) : okP true (ovalL w h) = true := by
  have a := near_mul (x := w / 2) (k := 36195) (by omega) (by omega) (by omega) (by omega)
  have b := near_mul (x := h / 2) (k := 36195) (by omega) (by omega) (by omega) (by omega)
  apply okP_each
  · simp [ovalL, ovalN, okLen]
  · intro q hq
    unfold ovalL at hq
    generalize mul (w / 2) 36195 = k at *
    generalize mul (h / 2) 36195 = l at *
    unfold ovalN at hq
    simp only [List.mem_cons, List.not_mem_nil, or_false] at hq
    rcases hq with rfl | rfl | rfl | rfl | rfl | rfl | rfl | rfl | rfl | rfl | rfl | rfl | rfl <;> (apply near_of; simp only; omega)
theorem star_ok {n r s : Int} (r0 : -33554432 ≤ r) (r1 : r ≤ 33554432) (s0 : -33554432 ≤ s) (s1 : s ≤ 33554432) : okP true (starL n r s) = true := by
  have pn : 2 ≤ points n ∧ points n ≤ 16 := by unfold points clamp; split <;> (try split) <;> omega
  obtain ⟨c, hc⟩ := Int.eq_ofNat_of_zero_le (show 0 ≤ points n by omega)
  apply okP_each
  · unfold starL
    rw [straightL_length, starN_length, hc]
    simp [okLen]
    omega
  · intro q hq
    unfold starL at hq
    refine strN_each (P := fun q => nearP q = true) ?_ (by rw [starN_length, hc]; simp; omega) _ (Nat.le_refl _) q hq
    intro i hi
    rw [starN_length] at hi
    have e : pt (starN (points n) r s (2 * (points n).toNat)) i = starP (points n) r s i := by unfold pt starN; simp [List.getD, hi]
    rw [e]
    have x := near_mul (x := if i % 2 = 1 then s else r) (k := cos (angle (points n) i)) (by split <;> omega) (by split <;> omega) (cos_bd _).1 (cos_bd _).2
    have y := near_mul (x := if i % 2 = 1 then s else r) (k := sin (angle (points n) i)) (by split <;> omega) (by split <;> omega) (sin_bd _).1 (sin_bd _).2
    apply near_of
    unfold starP
    simp only
    omega

end Go.Proofs.YtglbfpjjnboeaaaGreat

namespace Go.Proofs.YtglbfpjjnboeaaaGreat
open Go Go.RowKit
open M

/-- Numbers of the call's own. -/
def Jown (w : World) (base : Nat) (v : Value) (xs : List Int) : Prop := w.ownsRow base 2 1 v xs.length (xs.map (Value.int .i64))
theorem Jown.sl {w : World} {B : Nat} {v : Value} {xs : List Int} (h : Jown w B v xs) (hf : xs.length ≤ 8796093022208) : Isl w v xs := by
  have hf : xs.length ≤ 17592186044416 := by omega
  rcases h.2 with ⟨rfl, hn⟩ | ⟨g, cap, cur, rfl, _, hg, _, _, _, ht⟩
  · exact ⟨none, 0, by rw [hn], hf, fun h0 => by omega⟩
  · refine ⟨_, cap, rfl, hf, fun _ => ⟨g, 0, rfl, fun i hi => ?_⟩⟩
    have hu : (xs.map (Value.int .i64))[i]? = some (.int .i64 (nm xs i)) := by simp [nm, List.getD, hi]
    rw [Nat.zero_add, cell_of_row w g i cur _ _ hg]
    rw [← ht, List.getElem?_take] at hu
    split at hu
    · simpa using hu
    · cases hu
theorem Jown.nil (w : World) (base : Nat) : Jown w base (.slice none 0 0) [] := World.ownsRow_nil _ _ _ _
theorem Jown.alloc {w : World} {B : Nat} {v : Value} {xs : List Int} (h : Jown w B v xs) (o : Obj) : Jown (w.alloc o) B v xs := World.ownsRow.alloc h o
theorem Jown.base {w : World} {B : Nat} {v : Value} {xs : List Int} (h : Jown w B v xs) (k : Nat) (hk : v.ownBlock = some k) : B ≤ k ∧ k < w.heap.size := World.ownsRow.lt h k hk
theorem Jown.below {w w' : World} {B : Nat} {v : Value} {xs : List Int} (h : Jown w B v xs) (hb : Below w.heap.size w w') : Jown w' B v xs := by
  refine World.ownsRow.kept h (grownBy_below hb (Nat.le_refl _)) ?_
  by_cases e : v.ownBlock = none
  · exact Or.inl e
  · exact Or.inr e
theorem Jown.len {w : World} {B : Nat} {v : Value} {xs : List Int} (h : Jown w B v xs) : ∃ ao cap, v = .slice ao xs.length cap := by
  rcases h.2 with ⟨rfl, hn⟩ | ⟨g, cap, cur, rfl, _⟩
  · exact ⟨none, 0, by rw [hn]⟩
  · exact ⟨_, cap, rfl⟩
theorem Tryz.infoI64 : (Tryz.prog.info? 2).map (fun i => (i.zero, i.size, i.bytes)) = some (some (.int .i64 0), 1, 8) := by kernel_rfl
/-- One number more. -/
theorem wpList_append_j {W : World} {B : Nat} {l : Value} {xs : List Int} {ops : Array Oper} {rest : List Oper} {op : Oper} {a : Act} {Q : Exit → Act → World → Prop} (hgd : op.guard = none) (s x : Operand)
    (hop : op.op = .call { callee := .builtin .append, args := #[s, x], argTypes := #[22, 22] }) (hs : a.eval s = l) (H : Nat) (hx : a.eval x = .slice (some ⟨H, 0, none⟩) 1 1) (y : Int) (hn : Has W H #[.int .i64 y] 2)
    (ho : Jown W B l xs) (hf : xs.length ≤ 900) (hb : B ≤ W.heap.size)
    (h : ∀ t' w', Jown w' B t' (xs ++ [y]) → W.grownBy w' l.ownBlock → wpList Tryz.prog ops Q rest (a.put op.dst t') w') : wpList Tryz.prog ops Q (op :: rest) a W := by
  obtain ⟨j0, hj, hy0, hy1, hy2⟩ := info_parts Tryz.infoI64
  refine wpList_append_near _ hgd s x 22 hop B 2 j0 (.int .i64 0) 1 8 Tryz.underlying22 hj hy0 hy1 hy2 rfl (by decide) l xs.length (xs.map (Value.int .i64)) hs ho ⟨H, 0, none⟩ 1 1 [.int .i64 y] hx rfl ?_ ?_ ?_ ?_ hb ?_
  · intro j u hu
    rw [Addr.add_lit, Nat.zero_add]
    exact hn.cell j u (by simpa using hu)
  · intro u hu
    simp at hu
    subst hu
    rfl
  · unfold maxLen; omega
  · omega
  · intro t' w' ho' hg _
    exact h t' w' (by unfold Jown; simpa using ho') hg

end Go.Proofs.YtglbfpjjnboeaaaGreat

namespace Go.Proofs.YtglbfpjjnboeaaaGreat
open Go Go.RowKit
open M

structure OkN (s : Shp) : Prop where
  f0 : 0 ≤ s.form
  f3 : s.form ≤ 3
  n : (s.form = 2 ∧ 2 ≤ s.n ∧ s.n ≤ 6) ∨ (s.form ≠ 2 ∧ s.n = 0)
def Body (s : Shp) : Prop := (s.form ≠ 3 ∧ K60 1 14 s.W ∧ K60 1 14 s.H ∧ s.P = []) ∨ (s.form = 3 ∧ s.W = [] ∧ s.H = [] ∧ Mk2 s.P ∧ 0 < s.P.length)
structure OkR (s : Shp) : Prop where
  rule : s.rule = 0 ∨ s.rule = 1
  kind : 0 ≤ s.kind ∧ s.kind ≤ 2
  place : -262144 ≤ s.p.x ∧ s.p.x ≤ 851967 ∧ -262144 ≤ s.p.y ∧ s.p.y ≤ 851967 ∧ -262144 ≤ s.q.x ∧ s.q.x ≤ 851967 ∧ -262144 ≤ s.q.y ∧ s.q.y ≤ 851967 ∧ 0 ≤ s.r ∧ s.r ≤ 851967
  C : right (bares s.C) = true
  Wd : right s.Wd = true
  cap : s.cap = 0 ∨ s.cap = 1
  D : okD s.D = true
  F : right s.F = true
  T : right s.T = true
/-- A shape as a tape's Shape makes it. -/
structure Made3 (s : Shp) : Prop where
  n : OkN s
  body : Body s
  rest : OkR s
theorem Made3.ok {s : Shp} (h : Made3 s) : okS s = true := by
  obtain ⟨⟨f0, f3, n⟩, body, ⟨rule, kind, place, C, Wd, cap, D, F, T⟩⟩ := h
  have hf : formOk s = true := by
    unfold formOk
    rcases body with ⟨b0, -, -, b3⟩ | ⟨b0, b1, b2, -, -⟩
    · rcases n with ⟨n0, n1, n2⟩ | ⟨n0, n1⟩
      · rw [if_neg (by omega), if_pos n0]
        simp [b3]
        omega
      · rw [if_pos (by omega)]
        simp [b3, n1]
    · rw [if_neg (by omega), if_neg (by omega), if_pos b0]
      rcases n with ⟨n0, n1, n2⟩ | ⟨n0, n1⟩
      · omega
      · simp [b1, b2, n1]
  have hl : lineOk s = true := by
    unfold lineOk
    rcases body with ⟨b0, b1, b2, b3⟩ | ⟨b0, b1, b2, b3, -⟩
    · rw [b1.right, b2.right, b3, Mk2.nil.keys]; rfl
    · rw [b1, b2, b3.keys]; rfl
  have hp : paintOk s = true := by
    unfold paintOk nearN
    simp
    omega
  have hfi : fillOk s = true := by
    unfold fillOk
    rw [hp, C]
    simp [rule]
  have hd : drawOk s = true := by
    unfold drawOk
    rw [Wd, F, T, D]
    simp [cap]
  unfold okS
  rw [hf, hl, hfi, hd]
  rfl
theorem atk_none (t : Int) : atk [] t 0 = 0 := rfl
theorem Made3.tells {s : Shp} (h : Made3 s) (t : Int) : (-33554432 ≤ atk s.W t 0 ∧ atk s.W t 0 ≤ 33554432) ∧ (-33554432 ≤ atk s.H t 0 ∧ atk s.H t 0 ≤ 33554432) := by
  rcases h.body with ⟨-, b1, b2, -⟩ | ⟨-, b1, b2, -, -⟩
  · exact ⟨b1.tells (by omega) (by omega) t, b2.tells (by omega) (by omega) t⟩
  · rw [b1, b2, atk_none]; omega
theorem straightL_pos (ps : List Pt) : 0 < (straightL ps).length := by rw [straightL_length]; omega
theorem Made3.path {s : Shp} (h : Made3 s) (t : Int) : okP (shCl s t) (shAt s t) = true ∧ 0 < (shAt s t).length ∧ (shAt s t).length ≤ 100 ∧ (s.form = 3 ∨ shCl s t = true) := by
  obtain ⟨⟨w0, w1⟩, h0, h1⟩ := h.tells t
  have f0 := h.n.f0
  have f3 := h.n.f3
  by_cases e3 : s.form = 3
  · rcases h.body with ⟨b, -⟩ | ⟨-, -, -, b, bl⟩
    · exact absurd e3 b
    · have p := b.path bl t
      unfold shCl shAt
      rw [if_neg (by omega), if_pos e3, if_neg (by omega), if_neg (by omega), if_neg (by omega), if_pos e3]
      exact ⟨p.1, p.2.1, by omega, Or.inl e3⟩
  · unfold shCl
    rw [if_pos (by omega)]
    unfold shAt
    rcases (show s.form = 0 ∨ s.form = 1 ∨ s.form = 2 by omega) with e | e | e
    · rw [if_pos e]
      exact ⟨rect_ok w0 w1 h0 h1, straightL_pos _, (by unfold rectL; rw [straightL_length]; simp [rectP]), Or.inr rfl⟩
    · rw [if_neg (by omega), if_pos e]
      exact ⟨oval_ok w0 w1 h0 h1, by unfold ovalL ovalN; simp, by unfold ovalL ovalN; simp, Or.inr rfl⟩
    · rw [if_neg (by omega), if_neg (by omega), if_pos e]
      refine ⟨star_ok w0 w1 h0 h1, straightL_pos _, ?_, Or.inr rfl⟩
      have pn : 2 ≤ points s.n ∧ points s.n ≤ 16 := by unfold points clamp; split <;> (try split) <;> omega
      unfold starL
      rw [straightL_length, starN_length]
      omega
theorem Made3.ahead {s : Shp} (h : Made3 s) {t u : Int} (ht : t < 0) (hu : u < 0) : shAt s t = shAt s u ∧ shCl s t = shCl s u := by
  unfold shAt shCl
  rcases h.body with ⟨b, b1, b2, b3⟩ | ⟨b, b1, b2, b3, -⟩
  · rw [b1.ahead ht hu, b2.ahead ht hu, if_neg b, if_neg b, if_neg b, if_neg b]
    exact ⟨rfl, rfl⟩
  · rw [b1, b2, atk_none, atk_none, (b3.ahead ht hu).1, (b3.ahead ht hu).2]
    exact ⟨rfl, rfl⟩
theorem Made3.behind {s : Shp} (h : Made3 s) {t u : Int} (ht : 60 ≤ t) (hu : 60 ≤ u) : shAt s t = shAt s u ∧ shCl s t = shCl s u := by
  unfold shAt shCl
  rcases h.body with ⟨b, b1, b2, b3⟩ | ⟨b, b1, b2, b3, -⟩
  · rw [b1.behind ht hu, b2.behind ht hu, if_neg b, if_neg b, if_neg b, if_neg b]
    exact ⟨rfl, rfl⟩
  · rw [b1, b2, atk_none, atk_none, (b3.behind ht hu).1, (b3.behind ht hu).2]
    exact ⟨rfl, rfl⟩

/-- Its lists lie as another's with the same lists do. -/
theorem Lsts.num {A M : Nat} {s : Shp} {W : World} (h : Lsts A M s W) (form n rule kind : Int) (fill stroke : Bool) (a b line : Cr) (p q : Pt) (r cap : Int) :
    Lsts A M { s with form := form, n := n, rule := rule, kind := kind, fill := fill, stroke := stroke, a := a, b := b, line := line, p := p, q := q, r := r, cap := cap } W :=
  ⟨⟨h.lie.W, h.lie.H, h.lie.P, h.lie.C, h.lie.Wd, h.lie.D, h.lie.F, h.lie.T⟩, h.bW, h.bH, h.bP, h.bp, h.bC, h.bWd, h.bD, h.bF, h.bT⟩
theorem Lsts.setW {A M : Nat} {s : Shp} {W : World} (h : Lsts A M s W) {v : Value} {ks : List Ky} (hs : Sl W v ks) (hb : Btw A M v) : Lsts A M { s with W := ks, vW := v } W :=
  ⟨⟨hs, h.lie.H, h.lie.P, h.lie.C, h.lie.Wd, h.lie.D, h.lie.F, h.lie.T⟩, hb, h.bH, h.bP, h.bp, h.bC, h.bWd, h.bD, h.bF, h.bT⟩
theorem Lsts.setH {A M : Nat} {s : Shp} {W : World} (h : Lsts A M s W) {v : Value} {ks : List Ky} (hs : Sl W v ks) (hb : Btw A M v) : Lsts A M { s with H := ks, vH := v } W :=
  ⟨⟨h.lie.W, hs, h.lie.P, h.lie.C, h.lie.Wd, h.lie.D, h.lie.F, h.lie.T⟩, h.bW, hb, h.bP, h.bp, h.bC, h.bWd, h.bD, h.bF, h.bT⟩
theorem Lsts.setP {A M : Nat} {s : Shp} {W : World} (h : Lsts A M s W) {v : Value} {ks : List Pk} (hs : Kl W v ks) (hb : Btw A M v) (hp : ∀ i, i < ks.length → Btw A M (pk ks i).v) : Lsts A M { s with P := ks, vP := v } W :=
  ⟨⟨h.lie.W, h.lie.H, hs, h.lie.C, h.lie.Wd, h.lie.D, h.lie.F, h.lie.T⟩, h.bW, h.bH, hb, hp, h.bC, h.bWd, h.bD, h.bF, h.bT⟩
theorem Lsts.setC {A M : Nat} {s : Shp} {W : World} (h : Lsts A M s W) {v : Value} {ks : List Ck} (hs : Csl W v ks) (hb : Btw A M v) : Lsts A M { s with C := ks, vC := v } W :=
  ⟨⟨h.lie.W, h.lie.H, h.lie.P, hs, h.lie.Wd, h.lie.D, h.lie.F, h.lie.T⟩, h.bW, h.bH, h.bP, h.bp, hb, h.bWd, h.bD, h.bF, h.bT⟩
theorem Lsts.setWd {A M : Nat} {s : Shp} {W : World} (h : Lsts A M s W) {v : Value} {ks : List Ky} (hs : Sl W v ks) (hb : Btw A M v) : Lsts A M { s with Wd := ks, vWd := v } W :=
  ⟨⟨h.lie.W, h.lie.H, h.lie.P, h.lie.C, hs, h.lie.D, h.lie.F, h.lie.T⟩, h.bW, h.bH, h.bP, h.bp, h.bC, hb, h.bD, h.bF, h.bT⟩
theorem Lsts.setD {A M : Nat} {s : Shp} {W : World} (h : Lsts A M s W) {v : Value} {ks : List Int} (hs : Isl W v ks) (hb : Btw A M v) : Lsts A M { s with D := ks, vD := v } W :=
  ⟨⟨h.lie.W, h.lie.H, h.lie.P, h.lie.C, h.lie.Wd, hs, h.lie.F, h.lie.T⟩, h.bW, h.bH, h.bP, h.bp, h.bC, h.bWd, hb, h.bF, h.bT⟩
theorem Lsts.setF {A M : Nat} {s : Shp} {W : World} (h : Lsts A M s W) {v : Value} {ks : List Ky} (hs : Sl W v ks) (hb : Btw A M v) : Lsts A M { s with F := ks, vF := v } W :=
  ⟨⟨h.lie.W, h.lie.H, h.lie.P, h.lie.C, h.lie.Wd, h.lie.D, hs, h.lie.T⟩, h.bW, h.bH, h.bP, h.bp, h.bC, h.bWd, h.bD, hb, h.bT⟩
theorem Lsts.setT {A M : Nat} {s : Shp} {W : World} (h : Lsts A M s W) {v : Value} {ks : List Ky} (hs : Sl W v ks) (hb : Btw A M v) : Lsts A M { s with T := ks, vT := v } W :=
  ⟨⟨h.lie.W, h.lie.H, h.lie.P, h.lie.C, h.lie.Wd, h.lie.D, h.lie.F, hs⟩, h.bW, h.bH, h.bP, h.bp, h.bC, h.bWd, h.bD, h.bF, hb⟩

/-- The tape v in block g, the shape in the making in block A (its cells c; the lists of s lie behind A and ahead of M), the result's block R: of w the tape alone has turned. -/
structure TS3 (w : World) (g : Nat) (v : Value) (R A : Nat) (z : Array Value) (M : Nat) (s : Shp) (c : Array Value) (W : World) : Prop where
  tape : Tp W g v
  grown : w.grownBy W (some g)
  has : Has W A c 34
  r : Has W R z 34
  ga : g < w.heap.size ∧ w.heap.size ≤ R ∧ R < A
  am : A < M ∧ M ≤ W.heap.size
  lsts : Lsts A M s W
/-- A tape's call. -/
theorem TS3.call {w : World} {g : Nat} {v : Value} {R A M : Nat} {z c : Array Value} {s : Shp} {W W2 : World} (h : TS3 w g v R A z M s c W) (ht : Tp W2 g v) (hg : W.grownBy W2 (some g)) : TS3 w g v R A z M s c W2 := by
  have a := h.ga
  have b := h.am
  have y := hg.size
  exact ⟨ht, grownBy_trans h.grown hg, has_grown h.has hg (by omega), has_grown h.r hg (by omega), h.ga, ⟨b.1, by omega⟩, h.lsts.kept (fun k hk k1 k2 => hg.block k hk (fun e => by simp at e; omega))⟩
/-- Something made, or a block from M on turned. -/
theorem TS3.step {w : World} {g : Nat} {v : Value} {R A M : Nat} {z c : Array Value} {s : Shp} {W W2 : World} {row : Option Nat} (hw : Tp w g v) (h : TS3 w g v R A z M s c W) (hg : W.grownBy W2 row) (hr : ∀ k, row = some k → M ≤ k) : TS3 w g v R A z M s c W2 := by
  have a := h.ga
  have b := h.am
  have y := hg.size
  refine ⟨hw.young h.tape hg (fun k hk => by have := hr k hk; omega), grownBy_own h.grown hg (fun k hk => by have := hr k hk; omega), (hg.block A h.has.lt (fun e => by have := hr A e.symm; omega)).trans h.has, (hg.block R h.r.lt (fun e => by have := hr R e.symm; omega)).trans h.r, h.ga, ⟨b.1, by omega⟩, h.lsts.kept (fun k hk k1 k2 => hg.block k hk (fun e => by have := hr k e.symm; omega))⟩
theorem TS3.alloc {w : World} {g : Nat} {v : Value} {R A M : Nat} {z c : Array Value} {s : Shp} {W : World} (h : TS3 w g v R A z M s c W) (o : Obj) : TS3 w g v R A z M s c (W.alloc o) := by
  have b := h.am
  exact ⟨tp_alloc h.tape o, grownBy_own h.grown (World.grownBy_alloc W o none) (fun k hk => by cases hk), h.has.alloc o, h.r.alloc o, h.ga, ⟨b.1, by simp; omega⟩, h.lsts.kept (fun k hk _ _ => (MapKept.heap_alloc W o).2 k hk)⟩
theorem TS3.drew {w : World} {g : Nat} {v : Value} {R A M : Nat} {z c : Array Value} {s : Shp} {W : World} (h : TS3 w g v R A z M s c W) : TS3 w g v R A z M s c W.drew :=
  ⟨h.tape.blocks (fun _ _ => rfl), ⟨h.grown.os, h.grown.tape, h.grown.output, h.grown.size, h.grown.block⟩, h.has.drew, h.r.drew, h.ga, h.am, h.lsts.kept (fun _ _ _ _ => rfl)⟩
theorem TS3.up {w : World} {g : Nat} {v : Value} {R A M M' : Nat} {z c : Array Value} {s : Shp} {W : World} (h : TS3 w g v R A z M s c W) (hm : M ≤ M') (hz : M' ≤ W.heap.size) : TS3 w g v R A z M' s c W := by
  have b := h.am
  exact ⟨h.tape, h.grown, h.has, h.r, h.ga, ⟨by omega, hz⟩, h.lsts.up hm⟩
/-- Stores into the shape's own block. -/
theorem TS3.into {w : World} {g : Nat} {v : Value} {R A M : Nat} {z c c' : Array Value} {s s' : Shp} {W W2 : World} (hw : Tp w g v) (h : TS3 w g v R A z M s c W) (hg : W.grownBy W2 (some A)) (hh : Has W2 A c' 34) (hl : Lsts A M s' W) : TS3 w g v R A z M s' c' W2 := by
  have a := h.ga
  have b := h.am
  have y := hg.size
  exact ⟨hw.young h.tape hg (fun k hk => by simp at hk; omega), grownBy_own h.grown hg (fun k hk => by simp at hk; omega), hh, has_grown h.r hg (by omega), h.ga, ⟨b.1, by omega⟩, hl.kept (fun k hk k1 k2 => hg.block k hk (fun e => by simp at e; omega))⟩
theorem TS3.put {w : World} {g : Nat} {v : Value} {R A M : Nat} {z c c' : Array Value} {s s' : Shp} {W : World} (hw : Tp w g v) (h : TS3 w g v R A z M s c W) (j : Nat) (u : Value) (hs : c.setIfInBounds j u = c') (hl : Lsts A M s' W) : TS3 w g v R A z M s' c' (W.setCell ⟨A, j, none⟩ u) :=
  h.into hw (grownBy_set (World.grownBy.refl _ _) _ _) (by rw [← hs]; exact has_set h.has j u) hl
/-- The shape s in the making, all its cells as s says. -/
abbrev TS2 (w : World) (g : Nat) (v : Value) (R A : Nat) (z : Array Value) (M : Nat) (s : Shp) (W : World) : Prop := TS3 w g v R A z M s (shC s) W

end Go.Proofs.YtglbfpjjnboeaaaGreat

namespace Go.Proofs.YtglbfpjjnboeaaaGreat
open Go Go.RowKit
open M

def pkl (k : Pk) : List Value := [.int .i64 k.t, .bool k.cl, k.v, .int .i64 k.h, .int .i64 k.a, .int .i64 k.b, .int .i64 k.c, .int .i64 k.d]
def pkls (ks : List Pk) : List Value := ks.flatMap pkl
theorem pkls_cons (k : Pk) (ks : List Pk) : pkls (k :: ks) = pkl k ++ pkls ks := by simp [pkls]
theorem pkls_snoc (ks : List Pk) (k : Pk) : pkls (ks ++ [k]) = pkls ks ++ pkl k := by simp [pkls]
theorem pkls_at {ks : List Pk} {i j : Nat} (hi : i < ks.length) (hj : j < 8) : (pkls ks)[i * 8 + j]? = (pkl (pk ks i))[j]? := by
  induction ks generalizing i with
  | nil => simp at hi
  | cons k ks ih =>
    rw [pkls_cons]
    cases i with
    | zero => rw [pk_zero, Nat.zero_mul, Nat.zero_add, List.getElem?_append_left (by simpa [pkl] using hj)]
    | succ i =>
      rw [pk_cons, List.getElem?_append_right (by simp [pkl]; omega)]
      rw [← ih (by simpa using hi)]
      congr 1
      simp [pkl]; omega
def Kown (w : World) (base : Nat) (v : Value) (ks : List Pk) : Prop := w.ownsRow base 43 8 v ks.length (pkls ks)
theorem Kown.base {w : World} {B : Nat} {v : Value} {ks : List Pk} (h : Kown w B v ks) (k : Nat) (hk : v.ownBlock = some k) : B ≤ k ∧ k < w.heap.size := World.ownsRow.lt h k hk
theorem Kown.kept {w w' : World} {B : Nat} {v : Value} {ks : List Pk} {row : Option Nat} (h : Kown w B v ks) (hg : w.grownBy w' row) (hr : ∀ k, row = some k → v.ownBlock ≠ some k) : Kown w' B v ks := by
  refine World.ownsRow.kept h hg ?_
  by_cases e : v.ownBlock = none
  · exact Or.inl e
  · refine Or.inr fun e2 => ?_
    cases hrow : row with
    | none => rw [hrow] at e2; exact e e2
    | some k => rw [hrow] at e2; exact hr k hrow e2
theorem Kown.kl {w : World} {B : Nat} {v : Value} {ks : List Pk} (h : Kown w B v ks) (hf : ks.length ≤ 100) (hp : ∀ i, i < ks.length → Psl w (pk ks i).v (pk ks i).ps) : Kl w v ks := by
  rcases h.2 with ⟨rfl, hn⟩ | ⟨g, cap, cur, rfl, _, hg, _, _, _, ht⟩
  · exact ⟨none, 0, by rw [hn], hf, fun h0 => by omega⟩
  · refine ⟨_, cap, rfl, hf, fun _ => ⟨g, 0, rfl, ?_⟩⟩
    have key : ∀ i j u, i < ks.length → j < 8 → (pkl (pk ks i))[j]? = some u → w.cell? ⟨g, 0 + i * 8 + j, none⟩ = some u := by
      intro i j u hi hj hu
      have hu := (pkls_at hi hj).trans hu
      rw [Nat.zero_add, cell_of_row w g _ cur _ _ hg]
      rw [← ht, List.getElem?_take] at hu
      split at hu
      · simpa using hu
      · cases hu
    exact ⟨hf, hp, fun i hi => key i 0 _ hi (by omega) rfl, fun i hi => key i 1 _ hi (by omega) rfl, fun i hi => key i 2 _ hi (by omega) rfl, fun i hi => key i 3 _ hi (by omega) rfl, fun i hi => key i 4 _ hi (by omega) rfl, fun i hi => key i 5 _ hi (by omega) rfl, fun i hi => key i 6 _ hi (by omega) rfl, fun i hi => key i 7 _ hi (by omega) rfl⟩
theorem Tryz.infoPk : (Tryz.prog.info? 43).map (fun i => (i.zero, i.size, i.bytes)) = some (some (.agg #[.int .i64 0, .bool false, .slice none 0 0, .int .i64 0, .int .i64 0, .int .i64 0, .int .i64 0, .int .i64 0]), 8, 80) := by kernel_rfl

/-- The keys so far: the list lv, each path's own list, the tape in block B, all ticks ahead of A. -/
structure Mad (w : World) (B : Nat) (tp : Value) (A : Int) (ks : List Pk) (lv : Value) (wr : World) : Prop where
  own : Kown wr (B + 1) lv ks
  paths : ∀ i, i < ks.length → Pown wr (B + 1) (pk ks i).v (pk ks i).ps
  ne : ∀ i, i < ks.length → ∀ k, (pk ks i).v.ownBlock = some k → lv.ownBlock ≠ some k
  tape : Tp wr B tp
  below : Below B w wr
  sz : B + 1 ≤ wr.heap.size
  made : Mkd ks
  last : ∀ i, i < ks.length → (pk ks i).t < A
  a0 : 0 ≤ A
  a1 : A ≤ 3 + 5 * ks.length
theorem Mad.call {w wr w2 : World} {B : Nat} {tp lv : Value} {A : Int} {ks : List Pk} (h : Mad w B tp A ks lv wr) (ht : Tp w2 B tp) (hg : wr.grownBy w2 (some B)) : Mad w B tp A ks lv w2 :=
  ⟨h.own.kept hg (fun k hk e => by simp at hk; have := (h.own.base k e).1; omega), fun i hi => (h.paths i hi).young hg (by omega), h.ne, ht, below_on h.below hg (Nat.le_refl _) (by have := h.sz; omega), by have := hg.size; have := h.sz; omega, h.made, h.last, h.a0, h.a1⟩
theorem Mad.alloc {w wr : World} {B : Nat} {tp lv : Value} {A : Int} {ks : List Pk} (h : Mad w B tp A ks lv wr) (o : Obj) : Mad w B tp A ks lv (wr.alloc o) :=
  ⟨h.own.kept (World.grownBy_alloc wr o none) (fun k hk => by cases hk), fun i hi => (h.paths i hi).alloc o, h.ne, tp_alloc h.tape o, h.below.alloc (by have := h.sz; omega) o, by have := h.sz; simp; omega, h.made, h.last, h.a0, h.a1⟩
theorem Mad.set {w w0 wr : World} {B : Nat} {tp lv : Value} {A : Int} {ks : List Pk} (h0 : Mad w B tp A ks lv w0) (h : Mad w B tp A ks lv wr) {k : Nat} (hk : w0.heap.size ≤ k) (j : Nat) (u : Value) : Mad w B tp A ks lv (wr.setCell ⟨k, j, none⟩ u) := by
  have hs : wr.grownBy (wr.setCell ⟨k, j, none⟩ u) (some k) := grownBy_set (World.grownBy.refl _ _) _ _
  have hz := h0.sz
  exact ⟨h.own.kept hs (fun i hi e => by simp at hi; have := (h0.own.base i e).2; omega), fun i hi => (h.paths i hi).kept hs (fun q hq e => by simp at hq; have := ((h0.paths i hi).base q e).2; omega), h.ne, h0.tape.young h.tape hs (fun i hi => by simp at hi; omega), h.below.setCell (by show B ≤ k; omega) _, by have := h.sz; simpa using this, h.made, h.last, h.a0, h.a1⟩
theorem Mkd.snoc {ks : List Pk} (h : Mkd ks) {x : Pk} {A : Int} (hl : ks.length ≤ 3) (hA : ∀ i, i < ks.length → (pk ks i).t < A) (ht : x.t = A) (a0 : 0 ≤ A) (a1 : A ≤ 100) (hh : x.h = 0 ∨ x.h = 1) (hp : x.a = 0 ∧ x.b = 0 ∧ x.c = 0 ∧ x.d = 0) (hs : Small x.ps) (hf : ∃ n, 1 ≤ n ∧ n ≤ 6 ∧ x.ps.length = 3 * n + 1) : Mkd (ks ++ [x]) := by
  have each : ∀ (P : Pk → Prop), (∀ i, i < ks.length → P (pk ks i)) → P x → ∀ i, i < (ks ++ [x]).length → P (pk (ks ++ [x]) i) := by
    intro P h1 h2 i hi
    simp at hi
    by_cases e : i < ks.length
    · rw [pk_left e]; exact h1 i e
    · obtain rfl : i = ks.length := by omega
      rw [pk_last]; exact h2
  refine ⟨by simp; omega, each (fun k => k.h = 0 ∨ k.h = 1) h.how hh, each (fun k => k.a = 0 ∧ k.b = 0 ∧ k.c = 0 ∧ k.d = 0) h.plain hp, each (fun k => 0 ≤ k.t ∧ k.t ≤ 100) h.tick (by omega), ?_, each (fun k => Small k.ps) h.small hs, each (fun k => ∃ n, 1 ≤ n ∧ n ≤ 6 ∧ k.ps.length = 3 * n + 1) h.form hf⟩
  intro i hi
  simp at hi
  by_cases e : i + 1 < ks.length
  · rw [pk_left e, pk_left (by omega)]; exact h.up i e
  · have e2 : i + 1 = ks.length := by omega
    rw [pk_left (by omega), e2, pk_last, ht]
    exact hA i (by omega)
theorem Mad.snoc {w W w' : World} {B g' cap' : Nat} {tp lv : Value} {A A' : Int} {ks : List Pk} {x : Pk} (hT : ∃ wb, Tp wb B tp ∧ wb.heap.size = B + 1) (h : Mad w B tp A ks lv W) (hl : ks.length ≤ 3) (ht : x.t = A) (hh : x.h = 0 ∨ x.h = 1) (hp : x.a = 0 ∧ x.b = 0 ∧ x.c = 0 ∧ x.d = 0) (hs : Small x.ps) (hf : ∃ n, 1 ≤ n ∧ n ≤ 6 ∧ x.ps.length = 3 * n + 1)
    (hx : Pown W (B + 1) x.v x.ps) (hne : ∀ k, x.v.ownBlock = some k → lv.ownBlock ≠ some k) (A1 : A + 1 ≤ A') (A2 : A' ≤ A + 5)
    (ho : w'.ownsRow (B + 1) 43 8 (.slice (some ⟨g', 0, none⟩) (ks.length + 1) cap') (ks.length + 1) (pkls ks ++ pkl x)) (hg : W.grownBy w' lv.ownBlock) (hat : lv.ownBlock = some g' ∨ g' = W.heap.size) :
    Mad w B tp A' (ks ++ [x]) (.slice (some ⟨g', 0, none⟩) (ks.length + 1) cap') w' := by
  have b0 := h.a0
  have b1 := h.a1
  have hsz := h.sz
  have hrow : ∀ k, lv.ownBlock = some k → B + 1 ≤ k := fun k hk => (h.own.base k hk).1
  obtain ⟨wb, hwb, hwz⟩ := hT
  have each : ∀ (P : Pk → Prop), (∀ i, i < ks.length → P (pk ks i)) → P x → ∀ i, i < (ks ++ [x]).length → P (pk (ks ++ [x]) i) := by
    intro P h1 h2 i hi
    simp at hi
    by_cases e : i < ks.length
    · rw [pk_left e]; exact h1 i e
    · obtain rfl : i = ks.length := by omega
      rw [pk_last]; exact h2
  refine ⟨?_, ?_, ?_, hwb.young h.tape hg (fun k hk => by rw [hwz]; exact hrow k hk), h.below.grown hg (by omega) (fun k hk => by have := hrow k hk; omega), by have := hg.size; omega, h.made.snoc hl h.last ht b0 (by omega) hh hp hs hf, ?_, by omega, by simp; omega⟩
  · unfold Kown
    rw [pkls_snoc, List.length_append]
    exact ho
  · refine each (fun k => Pown w' (B + 1) k.v k.ps) (fun i hi => (h.paths i hi).kept hg (fun k hk e => h.ne i hi k e hk)) (hx.kept hg (fun k hk e => hne k e hk))
  · refine each (fun q => ∀ k, q.v.ownBlock = some k → Value.ownBlock (.slice (some ⟨g', 0, none⟩) (ks.length + 1) cap') ≠ some k) (fun i hi k hk e => ?_) (fun k hk e => ?_)
    · have e' : some g' = some k := e
      simp at e'
      rcases hat with hat | hat
      · exact h.ne i hi k hk (by rw [hat, e'])
      · have := ((h.paths i hi).base k hk).2; omega
    · have e' : some g' = some k := e
      simp at e'
      rcases hat with hat | hat
      · exact hne k hk (by rw [hat, e'])
      · have := (hx.base k hk).2; omega
  · exact each (fun k => k.t < A') (fun i hi => by have := h.last i hi; omega) (by omega)
theorem ones_pkl {x : Pk} (hv : ∃ ao n cap, x.v = .slice ao n cap) : ∀ u ∈ pkl x, u.oneCell' = true := by
  obtain ⟨ao, n, cap, hv⟩ := hv
  intro u hu
  simp [pkl] at hu
  rcases hu with rfl | rfl | rfl | rfl | rfl | rfl | rfl | rfl <;> first | rfl | (rw [hv]; rfl)
/-- An append of a key of a path that lies in a block of its own. -/
theorem wpList_append_pk {W : World} {base : Nat} {l : Value} {ks : List Pk} {ops : Array Oper} {rest : List Oper} {o : Oper} {a : Act} {Q : Exit → Act → World → Prop} (hgd : o.guard = none) (s x : Operand)
    (ho : o.op = .call { callee := .builtin .append, args := #[s, x], argTypes := #[25, 25] }) (hf : ks.length ≤ 100) (hs : a.eval s = l) (H : Nat) (hx : a.eval x = .slice (some ⟨H, 0, none⟩) 1 1)
    (p : Pk) (hv : ∃ ao n cap, p.v = .slice ao n cap) (hn : Has W H (pkCells p) 43) (hT : Kown W base l ks) (hb : base ≤ W.heap.size)
    (h : ∀ g' cap' w', w'.ownsRow base 43 8 (.slice (some ⟨g', 0, none⟩) (ks.length + 1) cap') (ks.length + 1) (pkls ks ++ pkl p) → W.grownBy w' l.ownBlock → (l.ownBlock = some g' ∨ g' = W.heap.size) → wpList Tryz.prog ops Q rest (a.put o.dst (.slice (some ⟨g', 0, none⟩) (ks.length + 1) cap')) w') : wpList Tryz.prog ops Q (o :: rest) a W := by
  obtain ⟨i0, hi, hz0, hz1, hz2⟩ := info_parts Tryz.infoPk
  refine wpList_append_lies W hgd s x 25 ho base 43 i0 _ 8 80 Tryz.underlying25 hi hz0 hz1 hz2 rfl (by decide) l ks.length (pkls ks) hs hT ⟨H, 0, none⟩ 1 1 (pkl p) hx rfl ?_ (ones_pkl hv) (by decide) (by unfold maxLen; omega) (by omega) hb _ rfl ?_
  · intro j u hu
    rw [Addr.add_lit, Nat.zero_add]
    exact hn.cell j u (by simpa [pkl] using hu)
  intro g' cap' w' hown' hg hat _
  exact h g' cap' w' hown' hg hat

def Mades (w : World) (e : Ending) (w' : World) : Prop := ∃ (v : Value) (ks : List Pk), e = .returned v ∧ Mkd ks ∧ Kl w' v ks ∧ Below w.heap.size w w'

end Go.Proofs.YtglbfpjjnboeaaaGreat

namespace Go.Proofs.YtglbfpjjnboeaaaGreat
open Go Go.RowKit
open M

theorem Mk2.snoc {ks : List Pk} (h : Mk2 ks) {x : Pk} {At : Int} {c : Bool} {n : Nat} (hl : ks.length ≤ 2) (hA : ∀ i, i < ks.length → (pk ks i).t < At) (ht : x.t = At) (a0 : 0 ≤ At) (a1 : At ≤ 59) (hh : okHow x.h x.a x.b x.c x.d = true)
    (hs : Small x.ps) (n1 : 1 ≤ n) (n2 : n ≤ 6) (he : ∀ i, i < ks.length → (pk ks i).cl = c ∧ (pk ks i).ps.length = 3 * n + 1) (hx : x.cl = c ∧ x.ps.length = 3 * n + 1) : Mk2 (ks ++ [x]) := by
  have each : ∀ (P : Pk → Prop), (∀ i, i < ks.length → P (pk ks i)) → P x → ∀ i, i < (ks ++ [x]).length → P (pk (ks ++ [x]) i) := by
    intro P h1 h2 i hi
    simp at hi
    by_cases e : i < ks.length
    · rw [pk_left e]; exact h1 i e
    · obtain rfl : i = ks.length := by omega
      rw [pk_last]; exact h2
  have all := each (fun k => k.cl = c ∧ k.ps.length = 3 * n + 1) he hx
  refine ⟨by simp; omega, each (fun k => okHow k.h k.a k.b k.c k.d = true) h.how hh, each (fun k => 0 ≤ k.t ∧ k.t ≤ 59) h.tick (by omega), ?_, each (fun k => Small k.ps) h.small hs, each (fun k => ∃ n, 1 ≤ n ∧ n ≤ 6 ∧ k.ps.length = 3 * n + 1) h.form ⟨n, n1, n2, hx.2⟩, ?_⟩
  · intro i hi
    simp at hi
    by_cases e : i + 1 < ks.length
    · rw [pk_left e, pk_left (by omega)]; exact h.up i e
    · have e2 : i + 1 = ks.length := by omega
      rw [pk_left (by omega), e2, pk_last, ht]
      exact hA i (by omega)
  · intro i hi
    have a := all 0 (by simp)
    have b := all i hi
    rw [fits_eq (by rw [a.2, b.2]), a.1, b.1]
    simp

/-- The shape in the making in block A, its keys of paths so far ks, in the list lv; each path's own list; all ticks ahead of At. -/
structure Dr (w : World) (g : Nat) (v : Value) (R A : Nat) (z : Array Value) (c : Bool) (n : Nat) (At : Int) (s : Shp) (ks : List Pk) (lv : Value) (W : World) : Prop where
  t : TS3 w g v R A z (A + 1) s (shC { s with P := ks, vP := lv }) W
  own : Kown W (A + 1) lv ks
  paths : ∀ i, i < ks.length → Pown W (A + 1) (pk ks i).v (pk ks i).ps
  ne : ∀ i, i < ks.length → ∀ k, (pk ks i).v.ownBlock = some k → lv.ownBlock ≠ some k
  made : Mk2 ks
  all : ∀ i, i < ks.length → (pk ks i).cl = c ∧ (pk ks i).ps.length = 3 * n + 1
  last : ∀ i, i < ks.length → (pk ks i).t < At
  a0 : 0 ≤ At
  a1 : At ≤ 3 + 6 * ks.length
theorem Dr.call {w : World} {g : Nat} {v : Value} {R A n : Nat} {z : Array Value} {c : Bool} {At : Int} {s : Shp} {ks : List Pk} {lv : Value} {W W2 : World} (h : Dr w g v R A z c n At s ks lv W) (ht : Tp W2 g v) (hg : W.grownBy W2 (some g)) : Dr w g v R A z c n At s ks lv W2 := by
  have a := h.t.ga
  exact ⟨h.t.call ht hg, h.own.kept hg (fun k hk e => by simp at hk; have := (h.own.base k e).1; omega), fun i hi => (h.paths i hi).young hg (by omega), h.ne, h.made, h.all, h.last, h.a0, h.a1⟩
theorem Dr.alloc {w : World} {g : Nat} {v : Value} {R A n : Nat} {z : Array Value} {c : Bool} {At : Int} {s : Shp} {ks : List Pk} {lv : Value} {W : World} (h : Dr w g v R A z c n At s ks lv W) (o : Obj) : Dr w g v R A z c n At s ks lv (W.alloc o) :=
  ⟨h.t.alloc o, h.own.kept (World.grownBy_alloc W o none) (fun k hk => by cases hk), fun i hi => (h.paths i hi).alloc o, h.ne, h.made, h.all, h.last, h.a0, h.a1⟩
/-- Stores into a block that was made behind a world in which all this stood. -/
theorem Dr.set {w : World} {g : Nat} {v : Value} {R A n : Nat} {z : Array Value} {c : Bool} {At : Int} {s : Shp} {ks : List Pk} {lv : Value} {W0 W W2 : World} {k : Nat} (hw : Tp w g v) (h0 : Dr w g v R A z c n At s ks lv W0) (h : Dr w g v R A z c n At s ks lv W) (hk : W0.heap.size ≤ k) (hg : W.grownBy W2 (some k)) : Dr w g v R A z c n At s ks lv W2 := by
  have a := h0.t.am
  exact ⟨h.t.step hw hg (fun i hi => by simp at hi; omega), h.own.kept hg (fun i hi e => by simp at hi; have := (h0.own.base i e).2; omega), fun i hi => (h.paths i hi).kept hg (fun q hq e => by simp at hq; have := ((h0.paths i hi).base q e).2; omega), h.ne, h.made, h.all, h.last, h.a0, h.a1⟩
theorem Dr.snoc {w : World} {g : Nat} {v : Value} {R A n g' cap' : Nat} {z : Array Value} {c : Bool} {At At' : Int} {s : Shp} {ks : List Pk} {lv : Value} {W w' : World} {x : Pk} (hw : Tp w g v) (h : Dr w g v R A z c n At s ks lv W) (hl : ks.length ≤ 2) (ht : x.t = At) (hh : okHow x.h x.a x.b x.c x.d = true) (hs : Small x.ps) (n1 : 1 ≤ n) (n2 : n ≤ 6) (he : x.cl = c ∧ x.ps.length = 3 * n + 1)
    (hx : Pown W (A + 1) x.v x.ps) (hne : ∀ k, x.v.ownBlock = some k → lv.ownBlock ≠ some k) (A1 : At + 1 ≤ At') (A2 : At' ≤ At + 6)
    (ho : w'.ownsRow (A + 1) 43 8 (.slice (some ⟨g', 0, none⟩) (ks.length + 1) cap') (ks.length + 1) (pkls ks ++ pkl x)) (hg : W.grownBy w' lv.ownBlock) (hat : lv.ownBlock = some g' ∨ g' = W.heap.size) :
    Dr w g v R A z c n At' s (ks ++ [x]) (.slice (some ⟨g', 0, none⟩) (ks.length + 1) cap') (w'.setCell ⟨A, 4, none⟩ (.slice (some ⟨g', 0, none⟩) (ks.length + 1) cap')) := by
  have b0 := h.a0
  have b1 := h.a1
  have hrow : ∀ k, lv.ownBlock = some k → A + 1 ≤ k := fun k hk => (h.own.base k hk).1
  have hset : w'.grownBy (w'.setCell ⟨A, 4, none⟩ (.slice (some ⟨g', 0, none⟩) (ks.length + 1) cap')) (some A) := grownBy_set (World.grownBy.refl _ _) _ _
  have each : ∀ (P : Pk → Prop), (∀ i, i < ks.length → P (pk ks i)) → P x → ∀ i, i < (ks ++ [x]).length → P (pk (ks ++ [x]) i) := by
    intro P h1 h2 i hi
    simp at hi
    by_cases e : i < ks.length
    · rw [pk_left e]; exact h1 i e
    · obtain rfl : i = ks.length := by omega
      rw [pk_last]; exact h2
  refine ⟨(h.t.step hw hg (fun k hk => by have := hrow k hk; omega)).put hw 4 _ rfl ((h.t.step hw hg (fun k hk => by have := hrow k hk; omega)).lsts), ?_, ?_, ?_, h.made.snoc hl h.last ht b0 (by omega) hh hs n1 n2 h.all he, each (fun k => k.cl = c ∧ k.ps.length = 3 * n + 1) h.all he, ?_, by omega, by simp; omega⟩
  · have ko : Kown w' (A + 1) (.slice (some ⟨g', 0, none⟩) (ks.length + 1) cap') (ks ++ [x]) := by
      unfold Kown
      rw [pkls_snoc, List.length_append]
      exact ho
    exact ko.kept hset (fun k hk e => by simp at hk; have := (ko.base k e).1; omega)
  · refine each (fun k => Pown _ (A + 1) k.v k.ps) (fun i hi => ?_) ?_
    · have p := (h.paths i hi).kept hg (fun k hk e => h.ne i hi k e hk)
      exact p.kept hset (fun k hk e => by simp at hk; have := (p.base k e).1; omega)
    · have p := hx.kept hg (fun k hk e => hne k e hk)
      exact p.kept hset (fun k hk e => by simp at hk; have := (p.base k e).1; omega)
  · refine each (fun q => ∀ k, q.v.ownBlock = some k → Value.ownBlock (.slice (some ⟨g', 0, none⟩) (ks.length + 1) cap') ≠ some k) (fun i hi k hk e => ?_) (fun k hk e => ?_)
    · have e' : some g' = some k := e
      simp at e'
      rcases hat with hat | hat
      · exact h.ne i hi k hk (by rw [hat, e'])
      · have := ((h.paths i hi).base k hk).2; omega
    · have e' : some g' = some k := e
      simp at e'
      rcases hat with hat | hat
      · exact hne k hk (by rw [hat, e'])
      · have := (hx.base k hk).2; omega
  · exact each (fun k => k.t < At') (fun i hi => by have := h.last i hi; omega) (by omega)
theorem Dr.len {w : World} {g : Nat} {v : Value} {R A n : Nat} {z : Array Value} {c : Bool} {At : Int} {s : Shp} {ks : List Pk} {lv : Value} {W : World} (h : Dr w g v R A z c n At s ks lv W) : ∃ ao cap, lv = .slice ao ks.length cap := by
  rcases h.own.2 with ⟨rfl, hn⟩ | ⟨g, cap, cur, rfl, _⟩
  · exact ⟨none, 0, by rw [hn]⟩
  · exact ⟨_, cap, rfl⟩
/-- Behind the loop: the shape with its keys of paths, its lists ahead of the world's end. -/
theorem Dr.done {w : World} {g : Nat} {v : Value} {R A n : Nat} {z : Array Value} {c : Bool} {At : Int} {s : Shp} {ks : List Pk} {lv : Value} {W : World} (h : Dr w g v R A z c n At s ks lv W) : TS2 w g v R A z W.heap.size { s with P := ks, vP := lv } W := by
  have b := h.t.am
  have t := h.t.up b.2 (Nat.le_refl _)
  have fw := h.made.few
  exact ⟨t.tape, t.grown, t.has, t.r, t.ga, t.am, t.lsts.setP (h.own.kl (by omega) (fun i hi => (h.paths i hi).sl (by have := h.made.pos hi; omega))) (fun k hk => by have := h.own.base k hk; omega) (fun i hi k hk => by have := (h.paths i hi).base k hk; omega)⟩

end Go.Proofs.YtglbfpjjnboeaaaGreat

namespace Go.Proofs.YtglbfpjjnboeaaaGreat
open Go Go.RowKit
open M

theorem Own.btw {W : World} {A B : Nat} {l : Value} {qs : List Ky} (h : Own W B l qs) (hB : A < B) : Btw A W.heap.size l := fun k hk => by have := World.ownsRow.lt h k hk; omega
theorem Own.len {W : World} {B : Nat} {l : Value} {qs : List Ky} (h : Own W B l qs) : ∃ ao cap, l = .slice ao qs.length cap := by
  rcases h.2 with ⟨rfl, hn⟩ | ⟨g, cap, cur, rfl, _⟩
  · exact ⟨none, 0, by rw [hn]⟩
  · exact ⟨_, cap, rfl⟩
/-- Behind an append of one key to a list that was made behind M. -/
theorem TS3.keys {w : World} {g : Nat} {v : Value} {R A M B : Nat} {z c : Array Value} {s : Shp} {W w4 : World} {l l' : Value} {qs : List Ky} {k : Ky} (hw : Tp w g v) (h : TS3 w g v R A z M s c W) (hl : Own W B l qs) (hB : M ≤ B) (hf : qs.length ≤ 3)
    (ho : w4.ownsRow B 38 7 l' (qs.length + 1) (kls qs ++ kl k)) (hg : W.grownBy w4 l.ownBlock) : TS3 w g v R A z w4.heap.size s c w4 ∧ Sl w4 l' (qs ++ [k]) ∧ Btw A w4.heap.size l' := by
  have b := h.am
  have t := h.step hw hg (fun k hk => by have := World.ownsRow.lt hl k hk; omega)
  have o : Own w4 B l' (qs ++ [k]) := Own.snoc ho
  exact ⟨t.up t.am.2 (Nat.le_refl _), o.sl (by simp; omega), o.btw (by omega)⟩

/-- The shape in the making, from its form on; nd: no dash so far. -/
def MT (nd : Bool) (w : World) (g : Nat) (v : Value) (R A : Nat) (z : Array Value) (M : Nat) (W : World) : Prop := ∃ s : Shp, Made3 s ∧ (nd = true → s.D = [] ∧ s.vD = .slice none 0 0) ∧ TS2 w g v R A z M s W
section
variable {nd : Bool} {w : World} {g : Nat} {v : Value} {R A M : Nat} {z : Array Value} {W W2 : World}
theorem MT.tape (h : MT nd w g v R A z M W) : Tp W g v := by obtain ⟨s, _, _, t⟩ := h; exact t.tape
theorem MT.cells (h : MT nd w g v R A z M W) : ∃ s : Shp, Has W A (shC s) 34 := by obtain ⟨s, _, _, t⟩ := h; exact ⟨s, t.has⟩
theorem MT.am (h : MT nd w g v R A z M W) : A < M ∧ M ≤ W.heap.size := by obtain ⟨s, _, _, t⟩ := h; exact t.am
theorem MT.ga (h : MT nd w g v R A z M W) : g < w.heap.size ∧ w.heap.size ≤ R ∧ R < A := by obtain ⟨s, _, _, t⟩ := h; exact t.ga
theorem MT.call (h : MT nd w g v R A z M W) (ht : Tp W2 g v) (hg : W.grownBy W2 (some g)) : MT nd w g v R A z M W2 := by obtain ⟨s, m, d, t⟩ := h; exact ⟨s, m, d, t.call ht hg⟩
theorem MT.alloc (h : MT nd w g v R A z M W) (o : Obj) : MT nd w g v R A z M (W.alloc o) := by obtain ⟨s, m, d, t⟩ := h; exact ⟨s, m, d, t.alloc o⟩
theorem MT.up (h : MT nd w g v R A z M W) : MT nd w g v R A z W.heap.size W := by obtain ⟨s, m, d, t⟩ := h; exact ⟨s, m, d, t.up t.am.2 (Nat.le_refl _)⟩
theorem MT.weak (h : MT nd w g v R A z M W) : MT false w g v R A z M W := by obtain ⟨s, m, d, t⟩ := h; exact ⟨s, m, fun h => by simp at h, t⟩
theorem Made3.fill {s : Shp} (h : Made3 s) (b : Bool) : Made3 { s with fill := b } := ⟨⟨h.n.f0, h.n.f3, h.n.n⟩, h.body, ⟨h.rest.rule, h.rest.kind, h.rest.place, h.rest.C, h.rest.Wd, h.rest.cap, h.rest.D, h.rest.F, h.rest.T⟩⟩
theorem Made3.stroke {s : Shp} (h : Made3 s) (b : Bool) : Made3 { s with stroke := b } := ⟨⟨h.n.f0, h.n.f3, h.n.n⟩, h.body, ⟨h.rest.rule, h.rest.kind, h.rest.place, h.rest.C, h.rest.Wd, h.rest.cap, h.rest.D, h.rest.F, h.rest.T⟩⟩
theorem Made3.line {s : Shp} (h : Made3 s) (b : Cr) : Made3 { s with line := b } := ⟨⟨h.n.f0, h.n.f3, h.n.n⟩, h.body, ⟨h.rest.rule, h.rest.kind, h.rest.place, h.rest.C, h.rest.Wd, h.rest.cap, h.rest.D, h.rest.F, h.rest.T⟩⟩
theorem Made3.rule {s : Shp} (h : Made3 s) {x : Int} (hx : x = 0 ∨ x = 1) : Made3 { s with rule := x } := ⟨⟨h.n.f0, h.n.f3, h.n.n⟩, h.body, ⟨hx, h.rest.kind, h.rest.place, h.rest.C, h.rest.Wd, h.rest.cap, h.rest.D, h.rest.F, h.rest.T⟩⟩
theorem Made3.cap {s : Shp} (h : Made3 s) {x : Int} (hx : x = 0 ∨ x = 1) : Made3 { s with cap := x } := ⟨⟨h.n.f0, h.n.f3, h.n.n⟩, h.body, ⟨h.rest.rule, h.rest.kind, h.rest.place, h.rest.C, h.rest.Wd, hx, h.rest.D, h.rest.F, h.rest.T⟩⟩
theorem Made3.paint {s : Shp} (h : Made3 s) {k : Int} {a b : Cr} {p q : Pt} {r : Int} (hk : 0 ≤ k ∧ k ≤ 2)
    (hp : -262144 ≤ p.x ∧ p.x ≤ 851967 ∧ -262144 ≤ p.y ∧ p.y ≤ 851967 ∧ -262144 ≤ q.x ∧ q.x ≤ 851967 ∧ -262144 ≤ q.y ∧ q.y ≤ 851967 ∧ 0 ≤ r ∧ r ≤ 851967) : Made3 { s with kind := k, a := a, b := b, p := p, q := q, r := r } :=
  ⟨⟨h.n.f0, h.n.f3, h.n.n⟩, h.body, ⟨h.rest.rule, hk, hp, h.rest.C, h.rest.Wd, h.rest.cap, h.rest.D, h.rest.F, h.rest.T⟩⟩
theorem Made3.colors {s : Shp} (h : Made3 s) {ks : List Ck} (v : Value) (hk : right (bares ks) = true) : Made3 { s with C := ks, vC := v } := ⟨⟨h.n.f0, h.n.f3, h.n.n⟩, h.body, ⟨h.rest.rule, h.rest.kind, h.rest.place, hk, h.rest.Wd, h.rest.cap, h.rest.D, h.rest.F, h.rest.T⟩⟩
theorem Made3.width {s : Shp} (h : Made3 s) {ks : List Ky} (v : Value) (hk : right ks = true) : Made3 { s with Wd := ks, vWd := v } := ⟨⟨h.n.f0, h.n.f3, h.n.n⟩, h.body, ⟨h.rest.rule, h.rest.kind, h.rest.place, h.rest.C, hk, h.rest.cap, h.rest.D, h.rest.F, h.rest.T⟩⟩
theorem Made3.dash {s : Shp} (h : Made3 s) {ks : List Int} (v : Value) (hk : okD ks = true) : Made3 { s with D := ks, vD := v } := ⟨⟨h.n.f0, h.n.f3, h.n.n⟩, h.body, ⟨h.rest.rule, h.rest.kind, h.rest.place, h.rest.C, h.rest.Wd, h.rest.cap, hk, h.rest.F, h.rest.T⟩⟩
theorem Made3.fromTo {s : Shp} (h : Made3 s) {ks ls : List Ky} (u v : Value) (hk : right ks = true) (hl : right ls = true) : Made3 { s with F := ks, vF := u, T := ls, vT := v } := ⟨⟨h.n.f0, h.n.f3, h.n.n⟩, h.body, ⟨h.rest.rule, h.rest.kind, h.rest.place, h.rest.C, h.rest.Wd, h.rest.cap, h.rest.D, hk, hl⟩⟩

theorem MT.fill (hw : Tp w g v) (h : MT nd w g v R A z M W) (b : Bool) : MT nd w g v R A z M (W.setCell ⟨A, 5, none⟩ (.bool b)) := by
  obtain ⟨s, m, d, t⟩ := h
  exact ⟨{ s with fill := b }, m.fill b, d, t.put hw 5 _ rfl (t.lsts.num ..)⟩
theorem MT.rule (hw : Tp w g v) (h : MT nd w g v R A z M W) {x : Int} (hx : x = 0 ∨ x = 1) : MT nd w g v R A z M (W.setCell ⟨A, 6, none⟩ (.int .i64 x)) := by
  obtain ⟨s, m, d, t⟩ := h
  exact ⟨{ s with rule := x }, m.rule hx, d, t.put hw 6 _ rfl (t.lsts.num ..)⟩
theorem MT.stroke (hw : Tp w g v) (h : MT nd w g v R A z M W) (b : Bool) : MT nd w g v R A z M (W.setCell ⟨A, 22, none⟩ (.bool b)) := by
  obtain ⟨s, m, d, t⟩ := h
  exact ⟨{ s with stroke := b }, m.stroke b, d, t.put hw 22 _ rfl (t.lsts.num ..)⟩
theorem MT.cap (hw : Tp w g v) (h : MT nd w g v R A z M W) {x : Int} (hx : x = 0 ∨ x = 1) : MT nd w g v R A z M (W.setCell ⟨A, 28, none⟩ (.int .i64 x)) := by
  obtain ⟨s, m, d, t⟩ := h
  exact ⟨{ s with cap := x }, m.cap hx, d, t.put hw 28 _ rfl (t.lsts.num ..)⟩
/-- A paint's fourteen cells. -/
abbrev paintW (W : World) (A : Nat) (k : Int) (a b : Cr) (p q : Pt) (r : Int) : World :=
  ((((((((((((((W.setCell ⟨A, 7, none⟩ (.int .i64 k)).setCell ⟨A, 8, none⟩ (.int .u8 a.r)).setCell ⟨A, 9, none⟩ (.int .u8 a.g)).setCell ⟨A, 10, none⟩ (.int .u8 a.b)).setCell ⟨A, 11, none⟩ (.int .u8 a.q)).setCell ⟨A, 12, none⟩ (.int .u8 b.r)).setCell ⟨A, 13, none⟩ (.int .u8 b.g)).setCell ⟨A, 14, none⟩ (.int .u8 b.b)).setCell ⟨A, 15, none⟩ (.int .u8 b.q)).setCell ⟨A, 16, none⟩ (.int .i64 p.x)).setCell ⟨A, 17, none⟩ (.int .i64 p.y)).setCell ⟨A, 18, none⟩ (.int .i64 q.x)).setCell ⟨A, 19, none⟩ (.int .i64 q.y)).setCell ⟨A, 20, none⟩ (.int .i64 r))
theorem MT.paint (hw : Tp w g v) (h : MT nd w g v R A z M W) {k : Int} {a b : Cr} {p q : Pt} {r : Int} (hk : 0 ≤ k ∧ k ≤ 2)
    (hp : -262144 ≤ p.x ∧ p.x ≤ 851967 ∧ -262144 ≤ p.y ∧ p.y ≤ 851967 ∧ -262144 ≤ q.x ∧ q.x ≤ 851967 ∧ -262144 ≤ q.y ∧ q.y ≤ 851967 ∧ 0 ≤ r ∧ r ≤ 851967) : MT nd w g v R A z M (paintW W A k a b p q r) := by
  obtain ⟨s, m, d, t⟩ := h
  have gr : W.grownBy (paintW W A k a b p q r) (some A) :=
    grownBy_set (grownBy_set (grownBy_set (grownBy_set (grownBy_set (grownBy_set (grownBy_set (grownBy_set (grownBy_set (grownBy_set (grownBy_set (grownBy_set (grownBy_set (grownBy_set (World.grownBy.refl _ _) _ _) _ _) _ _) _ _) _ _) _ _) _ _) _ _) _ _) _ _) _ _) _ _) _ _) _ _
  have hh : Has (paintW W A k a b p q r) A (shC { s with kind := k, a := a, b := b, p := p, q := q, r := r }) 34 := by
    have h1 := has_set (has_set (has_set (has_set (has_set (has_set (has_set (has_set (has_set (has_set (has_set (has_set (has_set (has_set t.has 7 (.int .i64 k)) 8 (.int .u8 a.r)) 9 (.int .u8 a.g)) 10 (.int .u8 a.b)) 11 (.int .u8 a.q)) 12 (.int .u8 b.r)) 13 (.int .u8 b.g)) 14 (.int .u8 b.b)) 15 (.int .u8 b.q)) 16 (.int .i64 p.x)) 17 (.int .i64 p.y)) 18 (.int .i64 q.x)) 19 (.int .i64 q.y)) 20 (.int .i64 r)
    have e : (((((((((((((((shC s).setIfInBounds 7 (.int .i64 k)).setIfInBounds 8 (.int .u8 a.r)).setIfInBounds 9 (.int .u8 a.g)).setIfInBounds 10 (.int .u8 a.b)).setIfInBounds 11 (.int .u8 a.q)).setIfInBounds 12 (.int .u8 b.r)).setIfInBounds 13 (.int .u8 b.g)).setIfInBounds 14 (.int .u8 b.b)).setIfInBounds 15 (.int .u8 b.q)).setIfInBounds 16 (.int .i64 p.x)).setIfInBounds 17 (.int .i64 p.y)).setIfInBounds 18 (.int .i64 q.x)).setIfInBounds 19 (.int .i64 q.y)).setIfInBounds 20 (.int .i64 r)) = shC { s with kind := k, a := a, b := b, p := p, q := q, r := r } := by simp
    rw [e] at h1
    exact h1
  exact ⟨{ s with kind := k, a := a, b := b, p := p, q := q, r := r }, m.paint hk hp, d, t.into hw gr hh (t.lsts.num ..)⟩
abbrev lineW (W : World) (A : Nat) (c : Cr) : World := (((W.setCell ⟨A, 24, none⟩ (.int .u8 c.r)).setCell ⟨A, 25, none⟩ (.int .u8 c.g)).setCell ⟨A, 26, none⟩ (.int .u8 c.b)).setCell ⟨A, 27, none⟩ (.int .u8 c.q)
theorem MT.line (hw : Tp w g v) (h : MT nd w g v R A z M W) (c : Cr) : MT nd w g v R A z M (lineW W A c) := by
  obtain ⟨s, m, d, t⟩ := h
  have gr : W.grownBy (lineW W A c) (some A) := grownBy_set (grownBy_set (grownBy_set (grownBy_set (World.grownBy.refl _ _) _ _) _ _) _ _) _ _
  have hh : Has (lineW W A c) A (shC { s with line := c }) 34 := has_set (has_set (has_set (has_set t.has 24 _) 25 _) 26 _) 27 _
  exact ⟨{ s with line := c }, m.line c, d, t.into hw gr hh (t.lsts.num ..)⟩
theorem MT.colors (hw : Tp w g v) (h : MT nd w g v R A z M W) {ks : List Ck} {u : Value} (hk : right (bares ks) = true) (hc : Csl W u ks) (hu : ∀ k, u.ownBlock = some k → A < k ∧ k < W.heap.size) : MT nd w g v R A z W.heap.size (W.setCell ⟨A, 21, none⟩ u) := by
  obtain ⟨s, m, d, t⟩ := h.up
  exact ⟨{ s with C := ks, vC := u }, m.colors u hk, d, t.put hw 21 _ rfl (t.lsts.setC hc hu)⟩
theorem MT.width (hw : Tp w g v) (h : MT nd w g v R A z M W) {B : Nat} {w4 : World} {l l' : Value} {qs : List Ky} {k : Ky} (hl : Own W B l qs) (hB : M ≤ B) (hf : qs.length ≤ 3) (hk : right (qs ++ [k]) = true)
    (ho : w4.ownsRow B 38 7 l' (qs.length + 1) (kls qs ++ kl k)) (hg : W.grownBy w4 l.ownBlock) : MT nd w g v R A z w4.heap.size (w4.setCell ⟨A, 23, none⟩ l') := by
  obtain ⟨s, m, d, t⟩ := h
  obtain ⟨t4, sl, bt⟩ := t.keys hw hl hB hf ho hg
  exact ⟨{ s with Wd := qs ++ [k], vWd := l' }, m.width l' hk, d, t4.put hw 23 _ rfl (t4.lsts.setWd sl bt)⟩
theorem MT.fromTo (hw : Tp w g v) (h : MT nd w g v R A z M W) {B C : Nat} {l u : Value} {qs rs : List Ky} (hl : Own W B l qs) (hu : Own W C u rs) (hB : A < B) (hC : A < C) (hq : qs.length ≤ 3) (hr : rs.length ≤ 3) (kq : right qs = true) (kr : right rs = true) :
    MT nd w g v R A z W.heap.size ((W.setCell ⟨A, 30, none⟩ l).setCell ⟨A, 31, none⟩ u) := by
  obtain ⟨s, m, d, t⟩ := h.up
  have gr : W.grownBy ((W.setCell ⟨A, 30, none⟩ l).setCell ⟨A, 31, none⟩ u) (some A) := grownBy_set (grownBy_set (World.grownBy.refl _ _) _ _) _ _
  have hh : Has ((W.setCell ⟨A, 30, none⟩ l).setCell ⟨A, 31, none⟩ u) A (shC { s with F := qs, vF := l, T := rs, vT := u }) 34 := has_set (has_set t.has 30 _) 31 _
  exact ⟨{ s with F := qs, vF := l, T := rs, vT := u }, m.fromTo l u kq kr, d, t.into hw gr hh ((t.lsts.setF (hl.sl (by omega)) (hl.btw hB)).setT (hu.sl (by omega)) (hu.btw hC))⟩

/-- The loop of its dash: the numbers so far xs, in the list dv. -/
structure Dl (w : World) (g : Nat) (v : Value) (R A : Nat) (z : Array Value) (M : Nat) (s : Shp) (xs : List Int) (dv : Value) (W : World) : Prop where
  t : TS3 w g v R A z M s (shC { s with D := xs, vD := dv }) W
  own : Jown W M dv xs
  ok : ∀ i, i < xs.length → okN (nm xs i)
theorem Dl.call {s : Shp} {xs : List Int} {dv : Value} (h : Dl w g v R A z M s xs dv W) (ht : Tp W2 g v) (hg : W.grownBy W2 (some g)) : Dl w g v R A z M s xs dv W2 := by
  have a := h.t.ga
  have b := h.t.am
  refine ⟨h.t.call ht hg, ?_, h.ok⟩
  refine World.ownsRow.kept h.own hg ?_
  by_cases e : dv.ownBlock = none
  · exact Or.inl e
  · exact Or.inr fun e2 => by have := h.own.base g e2; omega
theorem Dl.alloc {s : Shp} {xs : List Int} {dv : Value} (h : Dl w g v R A z M s xs dv W) (o : Obj) : Dl w g v R A z M s xs dv (W.alloc o) := ⟨h.t.alloc o, h.own.alloc o, h.ok⟩
theorem Dl.drew {s : Shp} {xs : List Int} {dv : Value} (h : Dl w g v R A z M s xs dv W) : Dl w g v R A z M s xs dv W.drew := ⟨h.t.drew, h.own, h.ok⟩
theorem Dl.snoc {s : Shp} {xs : List Int} {dv dv' : Value} {w4 : World} {y : Int} (hw : Tp w g v) (h : Dl w g v R A z M s xs dv W) (hy : okN y) (ho : Jown w4 M dv' (xs ++ [y])) (hg : W.grownBy w4 dv.ownBlock) : Dl w g v R A z M s (xs ++ [y]) dv' (w4.setCell ⟨A, 29, none⟩ dv') := by
  have t := h.t.step hw hg (fun k hk => (h.own.base k hk).1)
  have b := t.am
  have hset : w4.grownBy (w4.setCell ⟨A, 29, none⟩ dv') (some A) := grownBy_set (World.grownBy.refl _ _) _ _
  refine ⟨t.put hw 29 _ rfl t.lsts, World.ownsRow.kept ho hset ?_, fun i hi => ?_⟩
  · by_cases e : dv'.ownBlock = none
    · exact Or.inl e
    · exact Or.inr fun e2 => by have := ho.base A e2; omega
  · simp at hi
    by_cases e : i < xs.length
    · have : nm (xs ++ [y]) i = nm xs i := by unfold nm; simp only [List.getD_eq_getElem?_getD]; rw [List.getElem?_append_left e]
      rw [this]; exact h.ok i e
    · obtain rfl : i = xs.length := by omega
      have : nm (xs ++ [y]) xs.length = y := by simp [nm, List.getD]
      rw [this]; exact hy
theorem Dl.done {s : Shp} {xs : List Int} {dv : Value} (hm : Made3 s) (h : Dl w g v R A z M s xs dv W) (hx : xs.length ≤ 8) : MT false w g v R A z W.heap.size W := by
  have b := h.t.am
  have t := h.t.up b.2 (Nat.le_refl _)
  exact ⟨{ s with D := xs, vD := dv }, hm.dash dv (okD_yes hx h.ok), fun h => by simp at h, ⟨t.tape, t.grown, t.has, t.r, t.ga, t.am, t.lsts.setD (h.own.sl (by omega)) (fun k hk => by have := h.own.base k hk; omega)⟩⟩
/-- A shape is done. -/
theorem MT.done (h : MT nd w g v R A z M W) : ∃ s : Shp, Made3 s ∧ ShIn W s ∧ Has W A (shC s) 34 ∧ Has W R z 34 ∧ Tp W g v ∧ w.grownBy W (some g) ∧ w.heap.size ≤ R := by
  obtain ⟨s, m, d, t⟩ := h
  exact ⟨s, m, t.lsts.lie, t.has, t.r, t.tape, t.grown, t.ga.2.1⟩
end

end Go.Proofs.YtglbfpjjnboeaaaGreat

namespace Go.Proofs.YtglbfpjjnboeaaaGreat
open Go.RowKit
open M

/-- A colour key's cells, as a list; a list of keys' cells. -/
def cl (k : Ck) : List Value := [.int .i64 k.t, .int .u8 k.p.r, .int .u8 k.p.g, .int .u8 k.p.b, .int .u8 k.p.q, .int .i64 k.h, .int .i64 k.a, .int .i64 k.b, .int .i64 k.c, .int .i64 k.d]
def cls (ks : List Ck) : List Value := ks.flatMap cl
theorem cls_cons (k : Ck) (ks : List Ck) : cls (k :: ks) = cl k ++ cls ks := by simp [cls]
theorem cls_snoc (ks : List Ck) (k : Ck) : cls (ks ++ [k]) = cls ks ++ cl k := by simp [cls]
theorem cls_length (ks : List Ck) : (cls ks).length = ks.length * 10 := by
  induction ks with
  | nil => rfl
  | cons k ks ih => rw [cls_cons, List.length_append, ih]; simp [cl]; omega
theorem ck_cons (k : Ck) (ks : List Ck) (i : Nat) : ck (k :: ks) (i + 1) = ck ks i := by simp [ck]
theorem ck_zero (k : Ck) (ks : List Ck) : ck (k :: ks) 0 = k := by simp [ck]
theorem cls_at {ks : List Ck} {i j : Nat} (hi : i < ks.length) (hj : j < 10) : (cls ks)[i * 10 + j]? = (cl (ck ks i))[j]? := by
  induction ks generalizing i with
  | nil => simp at hi
  | cons k ks ih =>
    rw [cls_cons]
    cases i with
    | zero => rw [ck_zero, Nat.zero_mul, Nat.zero_add, List.getElem?_append_left (by simpa [cl] using hj)]
    | succ i =>
      rw [ck_cons, List.getElem?_append_right (by simp [cl]; omega)]
      rw [← ih (by simpa using hi)]
      congr 1
      simp [cl]; omega
theorem one_cl (k : Ck) : ∀ u ∈ cl k, u.oneCell' = true := by
  intro u hu
  simp [cl] at hu
  rcases hu with rfl | rfl | rfl | rfl | rfl | rfl | rfl | rfl | rfl | rfl <;> rfl
theorem crow_of {w : World} {g o : Nat} {ks : List Ck} (hf : ks.length ≤ 8796093022208) (hk : ∀ i, i < ks.length → (ck ks i).p.Ok) (h : ∀ j u, (cls ks)[j]? = some u → w.cell? ⟨g, o + j, none⟩ = some u) : Crow w g o ks := by
  have key : ∀ i j u, i < ks.length → j < 10 → (cl (ck ks i))[j]? = some u → w.cell? ⟨g, o + i * 10 + j, none⟩ = some u := by
    intro i j u hi hj hu
    rw [Nat.add_assoc]
    exact h _ _ ((cls_at hi hj).trans hu)
  exact ⟨hf, hk, fun i hi => key i 0 _ hi (by omega) rfl, fun i hi => key i 1 _ hi (by omega) rfl, fun i hi => key i 2 _ hi (by omega) rfl, fun i hi => key i 3 _ hi (by omega) rfl, fun i hi => key i 4 _ hi (by omega) rfl, fun i hi => key i 5 _ hi (by omega) rfl, fun i hi => key i 6 _ hi (by omega) rfl, fun i hi => key i 7 _ hi (by omega) rfl, fun i hi => key i 8 _ hi (by omega) rfl, fun i hi => key i 9 _ hi (by omega) rfl⟩
theorem crow_has {w : World} {g : Nat} {ks : List Ck} {cs : Array Value} {t : TypeId} (hf : ks.length ≤ 8796093022208) (hk : ∀ i, i < ks.length → (ck ks i).p.Ok) (h : Has w g cs t) (hc : cs.toList = cls ks) : Crow w g 0 ks := by
  refine crow_of hf hk fun j u hu => ?_
  rw [Nat.zero_add]
  refine h.cell j u ?_
  rw [← hc] at hu
  simpa using hu
theorem csl_lit {w : World} {g : Nat} {ks : List Ck} {cs : Array Value} {t : TypeId} (n c : Nat) (hn : ks.length = n) (h0 : 0 < n) (hf : n ≤ 8796093022208) (hk : ∀ i, i < ks.length → (ck ks i).p.Ok) (h : Has w g cs t) (hc : cs.toList = cls ks) : Csl w (.slice (some ⟨g, 0, none⟩) n c) ks := by
  subst hn
  exact Or.inr ⟨h0, g, 0, c, rfl, crow_has hf hk h hc⟩
/-- The value v of a call's own holds just these keys, in its own blocks from 'base' on. -/
def Cown (w : World) (base : Nat) (v : Value) (ks : List Ck) : Prop := w.ownsRow base 45 10 v ks.length (cls ks)
theorem Cown.sl {w : World} {base : Nat} {v : Value} {ks : List Ck} (h : Cown w base v ks) (hf : ks.length ≤ 8796093022208) (hk : ∀ i, i < ks.length → (ck ks i).p.Ok) : Csl w v ks := by
  by_cases h0 : ks.length = 0
  · obtain rfl : ks = [] := List.eq_nil_of_length_eq_zero h0
    refine Or.inl ⟨rfl, ?_⟩
    rcases h.2 with ⟨rfl, _⟩ | ⟨g, cap, cur, rfl, _⟩
    · exact ⟨_, _, rfl⟩
    · exact ⟨_, _, rfl⟩
  · refine Or.inr ⟨by omega, ?_⟩
    rcases h.2 with ⟨_, hn⟩ | ⟨g, cap, cur, rfl, _, hg, _, _, _, ht⟩
    · exact absurd hn h0
    · refine ⟨g, 0, cap, rfl, crow_of hf hk fun j u hu => ?_⟩
      rw [Nat.zero_add, cell_of_row w g j cur _ _ hg]
      rw [← ht, List.getElem?_take] at hu
      split at hu
      · simpa using hu
      · cases hu
theorem Cown.nil (w : World) (base : Nat) : Cown w base (.slice none 0 0) [] := World.ownsRow_nil _ _ _ _
theorem Cown.alloc {w : World} {base : Nat} {v : Value} {ks : List Ck} (h : Cown w base v ks) (o : Obj) : Cown (w.alloc o) base v ks := World.ownsRow.alloc h o
theorem Cown.snoc {w : World} {base : Nat} {v : Value} {ks : List Ck} {k : Ck} (h : w.ownsRow base 45 10 v (ks.length + 1) (cls ks ++ cl k)) : Cown w base v (ks ++ [k]) := by
  unfold Cown
  rw [cls_snoc, List.length_append]
  exact h
theorem Tryz.infoCk : (Tryz.prog.info? 45).map (fun i => (i.zero, i.size, i.bytes)) = some (some (.agg #[.int .i64 0, .int .u8 0, .int .u8 0, .int .u8 0, .int .u8 0, .int .i64 0, .int .i64 0, .int .i64 0, .int .i64 0, .int .i64 0]), 10, 56) := by kernel_rfl
theorem ten_cells {w : World} {k : Ck} {t : TypeId} {g : Nat} (hg : w.heap.size = g) : ∀ j u, (cl k)[j]? = some u → (w.alloc (.cells (kkCells k) t)).cell? ((⟨g, 0, none⟩ : Addr).add j) = some u := by
  intro j u hj
  subst hg
  match j, hj with
  | 0, hj => simp [cl] at hj; subst hj; simp [Addr.add]
  | 1, hj => simp [cl] at hj; subst hj; simp [Addr.add]
  | 2, hj => simp [cl] at hj; subst hj; simp [Addr.add]
  | 3, hj => simp [cl] at hj; subst hj; simp [Addr.add]
  | 4, hj => simp [cl] at hj; subst hj; simp [Addr.add]
  | 5, hj => simp [cl] at hj; subst hj; simp [Addr.add]
  | 6, hj => simp [cl] at hj; subst hj; simp [Addr.add]
  | 7, hj => simp [cl] at hj; subst hj; simp [Addr.add]
  | 8, hj => simp [cl] at hj; subst hj; simp [Addr.add]
  | 9, hj => simp [cl] at hj; subst hj; simp [Addr.add]

/-- One cell of a colour key set: the number (not a part of the colour). -/
def cupd (j : Nat) (k : Ck) (x : Int) : Ck := match j with
  | 0 => { k with t := x }
  | 5 => { k with h := x }
  | 6 => { k with a := x }
  | 7 => { k with b := x }
  | 8 => { k with c := x }
  | _ => { k with d := x }
def isNum (j : Nat) : Bool := j == 0 || (decide (5 ≤ j) && decide (j ≤ 9))
theorem cl_upd {j : Nat} (hj : isNum j = true) (k : Ck) (x : Int) : cl (cupd j k x) = (cl k).set j (.int .i64 x) := by
  have h : j = 0 ∨ j = 5 ∨ j = 6 ∨ j = 7 ∨ j = 8 ∨ j = 9 := by simp [isNum] at hj; omega
  rcases h with rfl | rfl | rfl | rfl | rfl | rfl <;> rfl
theorem isNum_lt {j : Nat} (hj : isNum j = true) : j < 10 := by simp [isNum] at hj; omega
theorem cls_upd {qs : List Ck} {n j : Nat} (hn : n < qs.length) (hj : isNum j = true) (x : Int) : cls (qs.set n (cupd j (ck qs n) x)) = (cls qs).set (n * 10 + j) (.int .i64 x) := by
  have h10 := isNum_lt hj
  induction qs generalizing n with
  | nil => simp at hn
  | cons k qs ih =>
    cases n with
    | zero => rw [List.set_cons_zero, cls_cons, cls_cons, ck_zero, cl_upd hj, Nat.zero_mul, Nat.zero_add, List.set_append_left _ _ (by simpa [cl] using h10)]
    | succ n =>
      rw [List.set_cons_succ, cls_cons, cls_cons, ck_cons, ih (by simpa using hn), List.set_append_right _ _ (by simp [cl]; omega)]
      congr 2
      simp [cl]; omega
theorem ck_set_eq {qs : List Ck} {n : Nat} (hn : n < qs.length) (k : Ck) : ck (qs.set n k) n = k := by unfold ck; simp [List.getD, hn]
theorem ck_set_ne {qs : List Ck} {n i : Nat} (h : n ≠ i) (k : Ck) : ck (qs.set n k) i = ck qs i := by unfold ck; simp [List.getD, h]
theorem ck_left {rs : List Ck} {k : Ck} {i : Nat} (h : i < rs.length) : ck (rs ++ [k]) i = ck rs i := by
  unfold ck; simp [List.getD, List.getElem?_append_left h]
theorem ck_last (rs : List Ck) (k : Ck) : ck (rs ++ [k]) rs.length = k := by unfold ck; simp [List.getD]
theorem cset_self (qs : List Ck) (n : Nat) : qs.set n (ck qs n) = qs := by
  apply List.ext_getElem?
  intro i
  by_cases e : n = i
  · subst e
    by_cases h : n < qs.length
    · unfold ck; simp [List.getD, h]
    · rw [List.getElem?_eq_none (by simp; omega), List.getElem?_eq_none (by omega)]
  · simp [e]
theorem Cown.put' {w : World} {B g cap N n : Nat} {qs : List Ck} {k : Ck} (h : Cown w B (.slice (some ⟨g, 0, none⟩) N cap) (qs.set n k)) (hN : qs.length = N) (hn : n < N) (j c : Nat) (hj : isNum j = true) (hc : c = n * 10 + j) (x : Int) :
    Cown (w.setCell ⟨g, c, none⟩ (.int .i64 x)) B (.slice (some ⟨g, 0, none⟩) N cap) (qs.set n (cupd j k x)) := by
  subst hc
  subst hN
  unfold Cown at h ⊢
  have e : cls (qs.set n (cupd j k x)) = (cls (qs.set n k)).set (n * 10 + j) (.int .i64 x) := by
    have := cls_upd (qs := qs.set n k) (n := n) (j := j) (by simpa using hn) hj x
    rw [ck_set_eq hn, List.set_set] at this
    exact this
  rw [e, List.length_set] at *
  exact (World.ownsRow.stored h _ _).1
theorem Cown.base {w : World} {B g cap N : Nat} {qs : List Ck} (h : Cown w B (.slice (some ⟨g, 0, none⟩) N cap) qs) : B ≤ g ∧ g < w.heap.size := World.ownsRow.lt h g rfl
theorem Cown.fro {w : World} {B g cap N : Nat} {qs : List Ck} (h : Cown w B (.slice (some ⟨g, 0, none⟩) N cap) qs) (hN : qs.length = N) (j : Nat) : w.frozen? ⟨g, j, none⟩ = false := by
  unfold Cown at h
  rw [hN] at h
  exact World.ownsRow.frozenAt h j
theorem Cown.shape {w : World} {B : Nat} {v : Value} {qs : List Ck} (h : Cown w B v qs) (h0 : 0 < qs.length) : ∃ g cap, v = .slice (some ⟨g, 0, none⟩) qs.length cap := by
  rcases h.2 with ⟨_, hn⟩ | ⟨g, cap, cur, rfl, _⟩
  · omega
  · exact ⟨g, cap, rfl⟩
theorem Cown.row {w : World} {B g cap N : Nat} {qs : List Ck} (h : Cown w B (.slice (some ⟨g, 0, none⟩) N cap) qs) (hf : qs.length ≤ 8796093022208) (hk : ∀ i, i < qs.length → (ck qs i).p.Ok) (h0 : 0 < qs.length) : Crow w g 0 qs := by
  rcases h.sl hf hk with ⟨rfl, _⟩ | ⟨_, g', o, cap', hv, hr⟩
  · simp at h0
  · simp at hv
    obtain ⟨⟨rfl, rfl⟩, _⟩ := hv
    exact hr

end Go.Proofs.YtglbfpjjnboeaaaGreat

namespace Go.Proofs.YtglbfpjjnboeaaaGreat
open Go Go.RowKit
open M

abbrev crF : Cr := ⟨0, 0, 0, 0⟩
abbrev nilF : Value := .slice none 0 0
/-- A shape of which the form alone is given. -/
abbrev shF (f n : Int) : Shp := { form := f, n := n, W := [], vW := nilF, H := [], vH := nilF, P := [], vP := nilF, fill := false, rule := 0, kind := 0, a := crF, b := crF, p := ⟨0, 0⟩, q := ⟨0, 0⟩, r := 0, C := [], vC := nilF, stroke := false, Wd := [], vWd := nilF, line := crF, cap := 0, D := [], vD := nilF, F := [], vF := nilF, T := [], vT := nilF }
theorem shF_lsts (A M : Nat) (f n : Int) (W : World) : Lsts A M (shF f n) W :=
  ⟨⟨Or.inl ⟨rfl, _, _, rfl⟩, Or.inl ⟨rfl, _, _, rfl⟩, ⟨none, 0, rfl, by simp, fun h => by simp at h⟩, Or.inl ⟨rfl, _, _, rfl⟩, Or.inl ⟨rfl, _, _, rfl⟩, isl_nil W none 0, Or.inl ⟨rfl, _, _, rfl⟩, Or.inl ⟨rfl, _, _, rfl⟩⟩,
    Btw.nil _ _ _ _, Btw.nil _ _ _ _, Btw.nil _ _ _ _, fun i hi => by simp at hi, Btw.nil _ _ _ _, Btw.nil _ _ _ _, Btw.nil _ _ _ _, Btw.nil _ _ _ _, Btw.nil _ _ _ _⟩
theorem shF_rest (f n : Int) : OkR (shF f n) := ⟨Or.inl rfl, (show (0 : Int) ≤ 0 ∧ (0 : Int) ≤ 2 by omega), (show (-262144 : Int) ≤ 0 ∧ (0 : Int) ≤ 851967 ∧ (-262144 : Int) ≤ 0 ∧ (0 : Int) ≤ 851967 ∧ (-262144 : Int) ≤ 0 ∧ (0 : Int) ≤ 851967 ∧ (-262144 : Int) ≤ 0 ∧ (0 : Int) ≤ 851967 ∧ (0 : Int) ≤ 0 ∧ (0 : Int) ≤ 851967 by omega), rfl, rfl, Or.inl rfl, rfl, rfl, rfl⟩
theorem shF_form {f n : Int} (h : OkN (shF f n)) (hf : f ≠ 3) {W H : List Ky} {vW vH : Value} (k : K60 1 14 W) (l : K60 1 14 H) : Made3 { shF f n with W := W, vW := vW, H := H, vH := vH } :=
  have r := shF_rest f n
  ⟨⟨h.f0, h.f3, h.n⟩, Or.inl ⟨hf, k, l, rfl⟩, ⟨r.rule, r.kind, r.place, r.C, r.Wd, r.cap, r.D, r.F, r.T⟩⟩
theorem shF_drawn {n : Int} (h : OkN (shF 3 n)) {ks : List Pk} {vP : Value} (k : Mk2 ks) (l : 0 < ks.length) : Made3 { shF 3 n with P := ks, vP := vP } :=
  have r := shF_rest 3 n
  ⟨⟨h.f0, h.f3, h.n⟩, Or.inr ⟨rfl, rfl, rfl, k, l⟩, ⟨r.rule, r.kind, r.place, r.C, r.Wd, r.cap, r.D, r.F, r.T⟩⟩
theorem owns_len {w : World} {B k n : Nat} {e : TypeId} {l : Value} {xs : List Value} (h : w.ownsRow B e k l (n + 1) xs) : ∃ ao cap, l = .slice ao (n + 1) cap := by
  rcases h.2 with ⟨rfl, hn⟩ | ⟨g, cap, cur, rfl, _⟩
  · omega
  · exact ⟨_, cap, rfl⟩
theorem TS2.setW {w : World} {g : Nat} {v : Value} {R A M B : Nat} {z : Array Value} {s : Shp} {W w4 : World} {l l' : Value} {qs : List Ky} {k : Ky} (hw : Tp w g v) (h : TS2 w g v R A z M s W) (hl : Own W B l qs) (hB : M ≤ B) (hf : qs.length ≤ 3)
    (ho : w4.ownsRow B 38 7 l' (qs.length + 1) (kls qs ++ kl k)) (hg : W.grownBy w4 l.ownBlock) : TS2 w g v R A z w4.heap.size { s with W := qs ++ [k], vW := l' } (w4.setCell ⟨A, 2, none⟩ l') :=
  have t := TS3.keys hw h hl hB hf ho hg
  t.1.put hw 2 l' rfl (t.1.lsts.setW t.2.1 t.2.2)
theorem TS2.setH {w : World} {g : Nat} {v : Value} {R A M B : Nat} {z : Array Value} {s : Shp} {W w4 : World} {l l' : Value} {qs : List Ky} {k : Ky} (hw : Tp w g v) (h : TS2 w g v R A z M s W) (hl : Own W B l qs) (hB : M ≤ B) (hf : qs.length ≤ 3)
    (ho : w4.ownsRow B 38 7 l' (qs.length + 1) (kls qs ++ kl k)) (hg : W.grownBy w4 l.ownBlock) : TS2 w g v R A z w4.heap.size { s with H := qs ++ [k], vH := l' } (w4.setCell ⟨A, 3, none⟩ l') :=
  have t := TS3.keys hw h hl hB hf ho hg
  t.1.put hw 3 l' rfl (t.1.lsts.setH t.2.1 t.2.2)
/-- One key more. -/
theorem wpList_append_ky {W : World} {B : Nat} {l : Value} {qs : List Ky} {ops : Array Oper} {rest : List Oper} {op : Oper} {a : Act} {Q : Exit → Act → World → Prop} (hgd : op.guard = none) (s x : Operand)
    (hop : op.op = .call { callee := .builtin .append, args := #[s, x], argTypes := #[24, 24] }) (hs : a.eval s = l) (H : Nat) (hx : a.eval x = .slice (some ⟨H, 0, none⟩) 1 1) (k : Ky) (hn : Has W H (kCells k) 38)
    (ho : Own W B l qs) (hf : qs.length ≤ 900) (hb : B ≤ W.heap.size)
    (h : ∀ t' w', w'.ownsRow B 38 7 t' (qs.length + 1) (kls qs ++ kl k) → W.grownBy w' l.ownBlock → wpList Tryz.prog ops Q rest (a.put op.dst t') w') : wpList Tryz.prog ops Q (op :: rest) a W := by
  obtain ⟨j0, hj, hy0, hy1, hy2⟩ := info_parts Tryz.infoKey
  refine wpList_append_near _ hgd s x 24 hop B 38 j0 (.agg #[.int .i64 0, .int .i64 0, .int .i64 0, .int .i64 0, .int .i64 0, .int .i64 0, .int .i64 0]) 7 56 Tryz.underlying24 hj hy0 hy1 hy2 rfl (by decide) l qs.length (kls qs) hs ho ⟨H, 0, none⟩ 1 1 (kl k) hx rfl ?_ (ints_one_kl k) ?_ ?_ hb ?_
  · intro j u hu
    rw [Addr.add_lit, Nat.zero_add]
    exact hn.cell j u (by simpa [kl] using hu)
  · unfold maxLen; omega
  · omega
  · intro t' w' ho' hg _
    exact h t' w' ho' hg

theorem colors_right {x y : Int} (a b : Cr) (x0 : 0 ≤ x) (x1 : x ≤ 4) (y0 : 0 ≤ y) (y1 : y ≤ 8) : right (bares [⟨x, a, 1, 0, 0, 0, 0⟩, ⟨5 + y, b, 0, 0, 0, 0, 0⟩]) = true := by
  have e0 : ky (bares [⟨x, a, 1, 0, 0, 0, 0⟩, ⟨5 + y, b, 0, 0, 0, 0, 0⟩]) 0 = ⟨x, 0, 1, 0, 0, 0, 0⟩ := rfl
  have e1 : ky (bares [⟨x, a, 1, 0, 0, 0, 0⟩, ⟨5 + y, b, 0, 0, 0, 0, 0⟩]) 1 = ⟨5 + y, 0, 0, 0, 0, 0, 0⟩ := rfl
  unfold right
  show (_ && rightN _ 2) = true
  unfold rightN rightN rightN
  rw [show (1 - 1 : Nat) = 0 from rfl, e0, e1]
  unfold okK okIn okHow
  simp [bares]
  omega
/-- Two keys of colours, in a block of their own. -/
theorem colors_lie {w : World} {g : Nat} {x y : Int} {a b : Cr} (ha : a.Ok) (hb : b.Ok) (h : Has w g #[.int .i64 x, .int .u8 a.r, .int .u8 a.g, .int .u8 a.b, .int .u8 a.q, .int .i64 1, .int .i64 0, .int .i64 0, .int .i64 0, .int .i64 0, .int .i64 (5 + y), .int .u8 b.r, .int .u8 b.g, .int .u8 b.b, .int .u8 b.q, .int .i64 0, .int .i64 0, .int .i64 0, .int .i64 0, .int .i64 0] 45) :
    Csl w (.slice (some ⟨g, 0, none⟩) 2 2) [⟨x, a, 1, 0, 0, 0, 0⟩, ⟨5 + y, b, 0, 0, 0, 0, 0⟩] := by
  refine csl_lit 2 2 rfl (by omega) (by omega) (fun i hi => ?_) h rfl
  have hi : i < 2 := hi
  rcases (show i = 0 ∨ i = 1 by omega) with rfl | rfl
  · exact ha
  · exact hb
theorem MT.open {w : World} {g : Nat} {v : Value} {R A M : Nat} {z : Array Value} {W : World} (h : MT true w g v R A z M W) : ∃ s : Shp, Made3 s ∧ Dl w g v R A z W.heap.size s [] (.slice none 0 0) W := by
  obtain ⟨s, m, d, t⟩ := h.up
  obtain ⟨-, e⟩ := d rfl
  have hc : shC { s with D := [], vD := .slice none 0 0 } = shC s := by simp [e]
  exact ⟨s, m, ⟨by rw [hc]; exact t, Jown.nil _ _, fun i hi => by simp at hi⟩⟩
theorem wp_append_j {W : World} {B : Nat} {l : Value} {xs : List Int} {op : Oper} {a : Act} {K : Act → World → Prop} {Q : Exit → Act → World → Prop} (s x : Operand)
    (hop : op.op = .call { callee := .builtin .append, args := #[s, x], argTypes := #[22, 22] }) (hs : a.eval s = l) (H : Nat) (hx : a.eval x = .slice (some ⟨H, 0, none⟩) 1 1) (y : Int) (hn : Has W H #[.int .i64 y] 2)
    (ho : Jown W B l xs) (hf : xs.length ≤ 900) (hb : B ≤ W.heap.size)
    (h : ∀ t' w', Jown w' B t' (xs ++ [y]) → W.grownBy w' l.ownBlock → K (a.put op.dst t') w') : op.wp Tryz.prog a W K Q := by
  obtain ⟨j0, hj, hy0, hy1, hy2⟩ := info_parts Tryz.infoI64
  obtain ⟨v', w', hr, h2, h3, h4⟩ := run_append_near (P := Tryz.prog) W B 22 op.type 2 j0 (.int .i64 0) 1 8 Tryz.underlying22 hj hy0 hy1 hy2 rfl (by decide) l xs.length (xs.map (Value.int .i64)) ho ⟨H, 0, none⟩ 1 1 [.int .i64 y] rfl
    (by
      intro j u hu
      rw [Addr.add_lit, Nat.zero_add]
      exact hn.cell j u (by simpa using hu))
    (by
      intro u hu
      simp at hu
      subst hu
      rfl) (by unfold maxLen; omega) (by omega) hb
  unfold Oper.wp execOp
  simp only [hop, resolve, invoke, builtin, Sem.run_bind, Sem.run_pure, Result.andThen_ok, List.map_toArray, List.map_cons, List.map_nil, hs, hx, hr]
  exact h v' w' (by unfold Jown; simpa using h2) h3
theorem step_append_j {W : World} {B : Nat} {l : Value} {xs : List Int} {ops : Array Oper} {op : Oper} {a : Act} {K : Act → World → Prop} {Q : Exit → Act → World → Prop} {E : Prop} (hw : Region.wanted op (yielded ops a.tmps) = true) (s x : Operand)
    (hop : op.op = .call { callee := .builtin .append, args := #[s, x], argTypes := #[22, 22] }) (hs : a.eval s = l) (H : Nat) (hx : a.eval x = .slice (some ⟨H, 0, none⟩) 1 1) (y : Int) (hn : Has W H #[.int .i64 y] 2)
    (ho : Jown W B l xs) (hf : xs.length ≤ 900) (hb : B ≤ W.heap.size)
    (h : ∀ t' w', Jown w' B t' (xs ++ [y]) → W.grownBy w' l.ownBlock → K (a.put op.dst t') w') :
    if Region.wanted op (yielded ops a.tmps) = true then Oper.wp Tryz.prog op a W K Q else E := by
  rw [if_pos hw]
  exact wp_append_j s x hop hs H hx y hn ho hf hb h
theorem Jown.len1 {w : World} {B : Nat} {v : Value} {xs : List Int} {y : Int} (h : Jown w B v (xs ++ [y])) : ∃ ao cap, v = .slice ao (xs.length + 1) cap := by
  obtain ⟨ao, cap, e⟩ := h.len
  exact ⟨ao, cap, by rw [e]; simp⟩
theorem ShIn.ones {w : World} {s : Shp} (h : ShIn w s) : ((shC s).all fun x => x.oneCell') = true := by
  have eW : s.vW.oneCell' = true := by obtain ⟨_, ao, cap, e⟩ := h.W.len; rw [e]; rfl
  have eH : s.vH.oneCell' = true := by obtain ⟨_, ao, cap, e⟩ := h.H.len; rw [e]; rfl
  have eP : s.vP.oneCell' = true := by obtain ⟨_, ao, cap, e⟩ := h.P.len; rw [e]; rfl
  have eC : s.vC.oneCell' = true := by obtain ⟨_, ao, cap, e⟩ := h.C.len; rw [e]; rfl
  have eD : s.vD.oneCell' = true := by obtain ⟨ao, cap, e, _⟩ := h.D; rw [e]; rfl
  have eL : s.vWd.oneCell' = true := by obtain ⟨_, ao, cap, e⟩ := h.Wd.len; rw [e]; rfl
  have eF : s.vF.oneCell' = true := by obtain ⟨_, ao, cap, e⟩ := h.F.len; rw [e]; rfl
  have eT : s.vT.oneCell' = true := by obtain ⟨_, ao, cap, e⟩ := h.T.len; rw [e]; rfl
  have i : ∀ k x, (Value.int k x).oneCell' = true := fun _ _ => rfl
  have b : ∀ x, (Value.bool x).oneCell' = true := fun _ => rfl
  simp [eW, eH, eP, eC, eD, eL, eF, eT, i, b]

end Go.Proofs.YtglbfpjjnboeaaaGreat

namespace Go.Proofs.YtglbfpjjnboeaaaGreat
open Go Go.RowKit
open M

abbrev dashO0 : Oper := { dst := some 138, op := Op.fieldAddr 34 (Operand.tmp 3) 13, type := 0, pos := "doc.go:124", after := #[], guard := none }
abbrev dashO1 : Oper := { dst := some 139, op := Op.load 22 (Operand.tmp 138), type := 22, pos := "doc.go:124", after := #[{ on := 0, ground := Ground.data }], guard := none }
abbrev dashO2 : Oper := { dst := some 140, op := Op.move (Operand.tmp 0), type := 49, pos := "doc.go:124", after := #[], guard := none }
abbrev dashO3 : Oper := { dst := some 141, op := Op.call { callee := Callee.value (Operand.func 24), args := #[Operand.tmp 140, Operand.const (Value.int IntKind.i64 1), Operand.const (Value.int IntKind.i64 5)], argTypes := #[49, 3, 3] }, type := 2, pos := "doc.go:124", after := #[{ on := 2, ground := Ground.data }], guard := none }
abbrev dashO4 : Oper := { dst := some 142, op := Op.buildSlice 22 1 #[(0, Operand.tmp 141)], type := 22, pos := "doc.go:124", after := #[{ on := 3, ground := Ground.data }], guard := none }
abbrev dashO5 : Oper := { dst := some 143, op := Op.call { callee := Callee.builtin Builtin.append, args := #[Operand.tmp 139, Operand.tmp 142], argTypes := #[22, 22] }, type := 22, pos := "doc.go:124", after := #[{ on := 1, ground := Ground.data }, { on := 4, ground := Ground.data }, { on := 3, ground := Ground.chain }], guard := none }
abbrev dashO6 : Oper := { dst := some 144, op := Op.fieldAddr 34 (Operand.tmp 3) 13, type := 0, pos := "doc.go:124", after := #[{ on := 0, ground := Ground.phase }, { on := 1, ground := Ground.phase }, { on := 2, ground := Ground.phase }, { on := 3, ground := Ground.phase }, { on := 4, ground := Ground.phase }, { on := 5, ground := Ground.phase }], guard := none }
abbrev dashO7 : Oper := { dst := none, op := Op.store 22 (Operand.tmp 144) (Operand.tmp 143), type := 0, pos := "doc.go:124", after := #[{ on := 6, ground := Ground.data }, { on := 5, ground := Ground.data }, { on := 5, ground := Ground.chain }, { on := 0, ground := Ground.phase }, { on := 1, ground := Ground.phase }, { on := 2, ground := Ground.phase }, { on := 3, ground := Ground.phase }, { on := 4, ground := Ground.phase }, { on := 5, ground := Ground.phase }], guard := none }
abbrev dashL : Array Oper := #[dashO0, dashO1, dashO2, dashO3, dashO4, dashO5, dashO6, dashO7]
theorem run_d0 {ρ : Operand → Value} {A : Nat} (h : ρ (.tmp 3) = .pointer (some ⟨A, 0, none⟩)) (w : World) : (execOp ρ dashO0).run Tryz.prog w = .ok (.value (.pointer (some ⟨A, 29, none⟩))) w := by
  simp [execOp, h, go_sem]
theorem run_d1 {ρ : Operand → Value} {A : Nat} {w : World} {ao : Option Addr} {n c : Nat} (h : ρ (.tmp 138) = .pointer (some ⟨A, 29, none⟩)) (hc : w.cell? ⟨A, 29, none⟩ = some (.slice ao n c)) : (execOp ρ dashO1).run Tryz.prog w = .ok (.value (.slice ao n c)) w := by
  simp [execOp, h, hc, go_sem]
theorem run_d2 {ρ : Operand → Value} {p : Value} (h : ρ (.tmp 0) = p) (w : World) : (execOp ρ dashO2).run Tryz.prog w = .ok (.value p) w := by
  simp [execOp, h, go_sem]
theorem run_d3 {ρ : Operand → Value} {p : Value} (h : ρ (.tmp 140) = p) (hf : ρ (.func 24) = .func (.func 24) #[] #[]) (hc : ∀ v, ρ (.const v) = v) (w : World) : (execOp ρ dashO3).run Tryz.prog w = .ok (.enter 24 #[p, .int .i64 1, .int .i64 5]) w := by
  simp [execOp, h, hf, hc, go_sem]
theorem run_d4 {ρ : Operand → Value} {y : Int} (h : ρ (.tmp 141) = .int .i64 y) (w : World) : (execOp ρ dashO4).run Tryz.prog w = .ok (.value (.slice (some ⟨w.heap.size, 0, none⟩) 1 1)) (w.alloc (.cells #[.int .i64 y] 2)) := by
  simp [execOp, h, go_sem]
theorem run_d6 {ρ : Operand → Value} {A : Nat} (h : ρ (.tmp 3) = .pointer (some ⟨A, 0, none⟩)) (w : World) : (execOp ρ dashO6).run Tryz.prog w = .ok (.value (.pointer (some ⟨A, 29, none⟩))) w := by
  simp [execOp, h, go_sem]
theorem run_d7 {ρ : Operand → Value} {A : Nat} {w : World} {u : Value} {ao : Option Addr} {n c : Nat} (h : ρ (.tmp 144) = .pointer (some ⟨A, 29, none⟩)) (hv : ρ (.tmp 143) = .slice ao n c) (hc : w.cell? ⟨A, 29, none⟩ = some u) (hf : w.frozen? ⟨A, 29, none⟩ = false) : (execOp ρ dashO7).run Tryz.prog w = .ok .skip (w.setCell ⟨A, 29, none⟩ (.slice ao n c)) := by
  simp [execOp, h, hv, hc, hf, go_sem]

section
variable {Q : Exit → Act → World → Prop} {a : Act} {w wr W : World} {g A R M H : Nat} {v : Value} {z : Array Value} {s : Shp} {xs : List Int} {aod : Option Addr} {capd : Nat} {y : Int}
set_option maxRecDepth 100000 in
/-- What is left behind the load, the call and the new block: in one order. -/
theorem dash_tail (hw : Tp w g v) (hs : a.tmps.size = 155) (h3 : a.eval (.tmp 3) = .pointer (some ⟨A, 0, none⟩)) (h1 : a.eval (.tmp 139) = .slice aod xs.length capd) (h4 : a.eval (.tmp 142) = .slice (some ⟨H, 0, none⟩) 1 1)
    (hn : Has W H #[.int .i64 y] 2) (D : Dl w g v R A z M s xs (.slice aod xs.length capd) W) (hx : xs.length ≤ 2) (hy : okN y)
    (h : ∀ ao cap w', Dl w g v R A z M s (xs ++ [y]) (.slice ao (xs.length + 1) cap) w' → Q .normal ((a.put (some 143) (.slice ao (xs.length + 1) cap)).put (some 144) (.pointer (some ⟨A, 29, none⟩))) w') :
    wpAny Tryz.prog .any dashL Q 3 #[true, true, true, true, true, false, false, false] a W := by
  refine wpAny_ready (rs := [5]) (by kernel_rfl) (by simp) ?_
  refine AllReady.cons (o := dashO5) rfl (fun K hK => ?_) AllReady.nil
  rw [if_pos (by rfl)]
  refine wp_append_j (.tmp 139) (.tmp 142) rfl h1 H h4 y hn D.own (by omega) D.t.am.2 (fun t' w6 ho hg => hK _ _ ?_)
  clear hK K
  have t6 := D.t.step hw hg (fun k hk => (D.own.base k hk).1)
  have c6 := t6.has.cell 29 (.slice aod xs.length capd) rfl
  have fz := has_fro t6.has
  obtain ⟨ao, cap, rfl⟩ := ho.len1
  have D6 := D.snoc hw hy ho hg
  refine wpAny_ready (rs := [6]) (by kernel_rfl) (by simp) ?_
  refine AllReady.cons (o := dashO6) rfl (fun K hK => ?_) AllReady.nil
  rw [if_pos (by rfl)]
  unfold Oper.wp
  rw [run_d6 (A := A) (by rw [Act.eval_put_ne _ _ _ _ (by decide)]; exact h3)]
  refine hK _ _ ?_
  clear hK K
  refine wpAny_ready (rs := [7]) (by kernel_rfl) (by simp) ?_
  refine AllReady.cons (o := dashO7) rfl (fun K hK => ?_) AllReady.nil
  rw [if_pos (by rfl)]
  unfold Oper.wp
  rw [run_d7 (A := A) (Act.eval_put_same _ _ _ (by rw [Act.size_put, hs]; decide)) (by rw [Act.eval_put_ne _ _ _ _ (by decide)]; exact Act.eval_put_same _ _ _ (by rw [hs]; decide)) c6 (fz 29)]
  refine hK _ _ ?_
  clear hK K
  exact wpAny_done (by kernel_rfl) _ _ _ (h ao cap _ D6)
set_option maxRecDepth 100000 in
/-- The statement, in whatever order. -/
theorem dash_region (hw : Tp w g v) (hq : ∀ c (a : Act) d v w, Q (.panic c) (a.put d v) w → Q (.panic c) a w) (hs : a.tmps.size = 155) (h0 : a.eval (.tmp 0) = .pointer (some ⟨g, 0, none⟩)) (h3 : a.eval (.tmp 3) = .pointer (some ⟨A, 0, none⟩))
    (D : Dl w g v R A z M s xs (.slice aod xs.length capd) wr) (hx : xs.length ≤ 2)
    (h : ∀ y H ao cap w', Dl w g v R A z M s (xs ++ [y]) (.slice ao (xs.length + 1) cap) w' → Q .normal (((((((a.put (some 138) (.pointer (some ⟨A, 29, none⟩))).put (some 140) (.pointer (some ⟨g, 0, none⟩))).put (some 139) (.slice aod xs.length capd)).put (some 141) (.int .i64 y)).put (some 142) (.slice (some ⟨H, 0, none⟩) 1 1)).put (some 143) (.slice ao (xs.length + 1) cap)).put (some 144) (.pointer (some ⟨A, 29, none⟩))) w') :
    (Code.region 29 dashL true).wp Tryz.prog Q a wr := by
  refine wp_region_any (by kernel_rfl) ?_
  change wpAny Tryz.prog .any dashL Q 8 _ a (World.drew wr)
  have D0 := D.drew
  clear D
  obtain ⟨W, hW⟩ : ∃ W, wr.drew = W := ⟨_, rfl⟩
  rw [hW] at D0 ⊢
  clear hW
  refine wpAny_take (i := 0) (oi := dashO0) (v := .pointer (some ⟨A, 29, none⟩)) rfl (by kernel_rfl) (by kernel_rfl) (by kernel_rfl) (fun c a w => hq c a _ _ w) (Or.inl ⟨by rfl, fun w => run_d0 h3 w⟩) ?_
  refine wpAny_take (i := 2) (oi := dashO2) (v := .pointer (some ⟨g, 0, none⟩)) rfl (by kernel_rfl) (by kernel_rfl) (by kernel_rfl) (fun c a w => hq c a _ _ w) (Or.inl ⟨by rfl, fun w => run_d2 (by rw [show dashO0.dst = some 138 from rfl, Act.eval_put_ne _ _ _ _ (by decide)]; exact h0) w⟩) ?_
  rw [show dashO0.dst = some 138 from rfl, show dashO2.dst = some 140 from rfl]
  obtain ⟨b, hb⟩ : ∃ b, (a.put (some 138) (.pointer (some ⟨A, 29, none⟩))).put (some 140) (.pointer (some ⟨g, 0, none⟩)) = b := ⟨_, rfl⟩
  rw [hb]
  simp only [hb] at h
  have bs : b.tmps.size = 155 := by rw [← hb, Act.size_put, Act.size_put, hs]
  have b3 : b.eval (.tmp 3) = .pointer (some ⟨A, 0, none⟩) := by rw [← hb, Act.eval_put_ne _ _ _ _ (by decide), Act.eval_put_ne _ _ _ _ (by decide)]; exact h3
  have b138 : b.eval (.tmp 138) = .pointer (some ⟨A, 29, none⟩) := by rw [← hb, Act.eval_put_ne _ _ _ _ (by decide)]; exact Act.eval_put_same _ _ _ (by rw [hs]; decide)
  have b140 : b.eval (.tmp 140) = .pointer (some ⟨g, 0, none⟩) := by rw [← hb]; exact Act.eval_put_same _ _ _ (by rw [Act.size_put, hs]; decide)
  clear hb h0 h3 hs
  -- the call, on a frame c that agrees with b in slots 140, in a world W
  have call : ∀ (c : Act) (W : World) (K : Act → World → Prop), c.eval (.tmp 140) = .pointer (some ⟨g, 0, none⟩) → Dl w g v R A z M s xs (.slice aod xs.length capd) W → (∀ y W5, okN y → Dl w g v R A z M s xs (.slice aod xs.length capd) W5 → K (c.put (some 141) (.int .i64 y)) W5) → dashO3.wp Tryz.prog c W K Q := by
    intro c W K hc D hK
    unfold Oper.wp
    rw [run_d3 hc rfl (fun _ => rfl)]
    refine Calls.mono (t_number g v 1 5 W (by omega) (by omega) (by omega) D.t.tape) ?_
    rintro e w5 ⟨y, rfl, y0, y1, ht, hg⟩
    exact hK y w5 ⟨by omega, by omega⟩ (D.call ht hg)
  have sz : ∀ {c : Act} (d : Nat) (u : Value), c.tmps.size = 155 → (c.put (some d) u).tmps.size = 155 := fun d u hc => by rw [Act.size_put, hc]
  refine wpAny_ready (rs := [1, 3]) (by kernel_rfl) (by simp) ?_
  refine AllReady.cons (o := dashO1) rfl (fun K hK => ?_) (AllReady.cons (o := dashO3) rfl (fun K hK => ?_) AllReady.nil)
  · -- the load first
    rw [if_pos (by rfl)]
    unfold Oper.wp
    rw [run_d1 b138 (D0.t.has.cell 29 (.slice aod xs.length capd) rfl)]
    refine hK _ _ ?_
    clear hK K
    refine wpAny_ready (rs := [3]) (by kernel_rfl) (by simp) ?_
    refine AllReady.cons (o := dashO3) rfl (fun K hK => ?_) AllReady.nil
    rw [if_pos (by rfl)]
    refine call _ _ _ (by rw [show dashO1.dst = some 139 from rfl, Act.eval_put_ne _ _ _ _ (by decide)]; exact b140) D0 (fun y W5 hy D5 => hK _ _ ?_)
    clear hK K D0
    refine wpAny_ready (rs := [4]) (by kernel_rfl) (by simp) ?_
    refine AllReady.cons (o := dashO4) rfl (fun K hK => ?_) AllReady.nil
    rw [if_pos (by rfl)]
    unfold Oper.wp
    rw [run_d4 (Act.eval_put_same _ _ _ (by rw [Act.size_put, bs]; decide))]
    refine hK _ _ ?_
    clear hK K
    refine dash_tail hw (sz _ _ (sz _ _ (sz _ _ bs))) ?_ ?_ (Act.eval_put_same _ _ _ (by rw [Act.size_put, Act.size_put, bs]; decide)) has_new0 (D5.alloc _) hx hy (fun ao cap w' hD => h y _ ao cap w' hD)
    · rw [show dashO4.dst = some 142 from rfl, show dashO1.dst = some 139 from rfl, Act.eval_put_ne _ _ _ _ (by decide), Act.eval_put_ne _ _ _ _ (by decide), Act.eval_put_ne _ _ _ _ (by decide)]; exact b3
    · rw [show dashO4.dst = some 142 from rfl, show dashO1.dst = some 139 from rfl, Act.eval_put_ne _ _ _ _ (by decide), Act.eval_put_ne _ _ _ _ (by decide)]; exact Act.eval_put_same _ _ _ (by rw [bs]; decide)
  · -- the call first
    rw [if_pos (by rfl)]
    refine call _ _ _ b140 D0 (fun y W5 hy D5 => hK _ _ ?_)
    clear hK K D0
    refine wpAny_ready (rs := [1, 4]) (by kernel_rfl) (by simp) ?_
    refine AllReady.cons (o := dashO1) rfl (fun K hK => ?_) (AllReady.cons (o := dashO4) rfl (fun K hK => ?_) AllReady.nil)
    · rw [if_pos (by rfl)]
      unfold Oper.wp
      rw [run_d1 (A := A) (by rw [Act.eval_put_ne _ _ _ _ (by decide)]; exact b138) (D5.t.has.cell 29 (.slice aod xs.length capd) rfl)]
      refine hK _ _ ?_
      clear hK K
      refine wpAny_ready (rs := [4]) (by kernel_rfl) (by simp) ?_
      refine AllReady.cons (o := dashO4) rfl (fun K hK => ?_) AllReady.nil
      rw [if_pos (by rfl)]
      unfold Oper.wp
      rw [run_d4 (y := y) (by rw [show dashO1.dst = some 139 from rfl, Act.eval_put_ne _ _ _ _ (by decide)]; exact Act.eval_put_same _ _ _ (by rw [bs]; decide))]
      refine hK _ _ ?_
      clear hK K
      rw [show dashO4.dst = some 142 from rfl, show dashO1.dst = some 139 from rfl, Act.put_comm b (x := some 141) (y := some 139) _ _ (by decide)]
      refine dash_tail hw (sz _ _ (sz _ _ (sz _ _ bs))) ?_ ?_ (Act.eval_put_same _ _ _ (by rw [Act.size_put, Act.size_put, bs]; decide)) has_new0 (D5.alloc _) hx hy (fun ao cap w' hD => h y _ ao cap w' hD)
      · rw [Act.eval_put_ne _ _ _ _ (by decide), Act.eval_put_ne _ _ _ _ (by decide), Act.eval_put_ne _ _ _ _ (by decide)]; exact b3
      · rw [Act.eval_put_ne _ _ _ _ (by decide), Act.eval_put_ne _ _ _ _ (by decide)]; exact Act.eval_put_same _ _ _ (by rw [bs]; decide)
    · rw [if_pos (by rfl)]
      unfold Oper.wp
      rw [run_d4 (y := y) (Act.eval_put_same _ _ _ (by rw [bs]; decide))]
      refine hK _ _ ?_
      clear hK K
      refine wpAny_ready (rs := [1]) (by kernel_rfl) (by simp) ?_
      refine AllReady.cons (o := dashO1) rfl (fun K hK => ?_) AllReady.nil
      rw [if_pos (by rfl)]
      unfold Oper.wp
      rw [show dashO4.dst = some 142 from rfl]
      rw [run_d1 (A := A) (by rw [Act.eval_put_ne _ _ _ _ (by decide), Act.eval_put_ne _ _ _ _ (by decide)]; exact b138) ((D5.alloc _).t.has.cell 29 (.slice aod xs.length capd) rfl)]
      refine hK _ _ ?_
      clear hK K
      rw [show dashO1.dst = some 139 from rfl, Act.put_comm (b.put (some 141) _) (x := some 142) (y := some 139) _ _ (by decide), Act.put_comm b (x := some 141) (y := some 139) _ _ (by decide)]
      refine dash_tail hw (sz _ _ (sz _ _ (sz _ _ bs))) ?_ ?_ (Act.eval_put_same _ _ _ (by rw [Act.size_put, Act.size_put, bs]; decide)) has_new0 (D5.alloc _) hx hy (fun ao cap w' hD => h y _ ao cap w' hD)
      · rw [Act.eval_put_ne _ _ _ _ (by decide), Act.eval_put_ne _ _ _ _ (by decide), Act.eval_put_ne _ _ _ _ (by decide)]; exact b3
      · rw [Act.eval_put_ne _ _ _ _ (by decide), Act.eval_put_ne _ _ _ _ (by decide)]; exact Act.eval_put_same _ _ _ (by rw [bs]; decide)
end

end Go.Proofs.YtglbfpjjnboeaaaGreat

namespace Go.Proofs.YtglbfpjjnboeaaaGreat
open Go Go.RowKit
open M

theorem kg_right {lo hi A : Int} {qs : List Ky} (h : KeptG lo hi qs A) (l : qs.length ≤ 3) : right qs = true := by
  unfold right
  rw [h.kept.right]
  simp
  omega
/-- Its lists lie in blocks of the call's own. -/
def Shapes3L (w : World) (g : Nat) (v : Value) (e : Ending) (w' : World) : Prop := ∃ s : Shp, e = .returned (.agg (shC s)) ∧ Made3 s ∧ (∃ A M, w.heap.size ≤ A ∧ Lsts A M s w') ∧ Tp w' g v ∧ w.grownBy w' (some g)
def Shapes3 (w : World) (g : Nat) (v : Value) (e : Ending) (w' : World) : Prop := ∃ s : Shp, e = .returned (.agg (shC s)) ∧ Made3 s ∧ ShIn w' s ∧ Tp w' g v ∧ w.grownBy w' (some g)

set_option maxRecDepth 100000 in
set_option maxHeartbeats 4000000 in
theorem t_shapeL (g : Nat) (v : Value) (w : World) (h : Tp w g v) :
    Calls Tryz.prog 8 #[.pointer (some ⟨g, 0, none⟩)] w (Shapes3L w g v) := by
  obtain ⟨R, hR⟩ : ∃ B, w.heap.size = B := ⟨_, rfl⟩
  obtain ⟨W, hW⟩ : ∃ W, w.alloc (.cells (shC (shF 0 0)) 34) = W := ⟨_, rfl⟩
  obtain ⟨z, hz⟩ : ∃ z, shC (shF 0 0) = z := ⟨_, rfl⟩
  have T0 : Hid (Tp W g v) := Lib.hid (by rw [← hW]; exact tp_alloc h _)
  have G0 : Hid (w.grownBy W (some g)) := Lib.hid (by rw [← hW]; exact World.grownBy_alloc _ _ _)
  have K0 : Hid (Has W R z 34) := Lib.hid (by rw [← hW, ← hz]; exact has_new hR)
  have HW := Lib.hid hW
  have HZ := Lib.hid hz
  have HNE : Hid (R ≠ g) := Lib.hid (by have := h.lt; omega)
  have HR := Lib.hid hR
  have HT := Lib.hid h
  clear hW h hz
  go_enter Tryz.func8, Tryz.ntmps8
  go_upto_region 1 with fail
  rw [HW.out]
  clear hR
  apply wp_region_lit
  refine wpList_plain rfl fun K hK => ?_
  have HK := Lib.hid hK
  clear hK
  go_wp2_with fail
  refine HK.out _ _ ?_
  clear HK
  refine wpList_plain rfl fun K hK => ?_
  have HK := Lib.hid hK
  clear hK
  go_wp2_with fail
  refine (t_next g v 4 _ (by omega) (by omega) T0.out).mono ?_
  rintro e w1 ⟨f, rfl, f0, f1, ht, hg⟩
  have T1 := Lib.hid ht
  have G1 := Lib.hid (grownBy_trans G0.out hg)
  have K1 := Lib.hid (has_grown K0.out hg HNE.out)
  clear ht hg T0 G0 K0
  refine HK.out _ _ ?_
  clear HK
  refine wpList_plain rfl fun K hK => ?_
  have HK := Lib.hid hK
  clear hK
  go_wp2_with fail
  refine HK.out _ _ ?_
  clear HK
  obtain ⟨A, hA⟩ : ∃ A, w1.heap.size = A := ⟨_, rfl⟩
  refine wpList_plain rfl fun K hK => ?_
  have HK := Lib.hid hK
  clear hK
  go_wp2_with fail
  refine HK.out _ _ ?_
  clear HK
  refine wpList_store_row rfl 34 _ _ rfl A (shC (shF f 0)) rfl rfl 34 _ (has_new hA) (by kernel_rfl) rfl (by kernel_rfl) ?_
  apply wpList_nil
  have X0 : Has (w1.alloc (.cells (shC (shF 0 0)) 34)) A _ _ := has_new hA
  have S0 : TS2 w g v R A z (A + 1) (shF f 0) ((w1.alloc (.cells (shC (shF 0 0)) 34)).setRow A (shC (shF f 0))) := by
    have a0 := HT.out.lt
    have a1 := G1.out.size
    have a2 := K1.out.lt
    have a3 := HR.out
    have hs : (w1.alloc (.cells (shC (shF 0 0)) 34)).grownBy ((w1.alloc (.cells (shC (shF 0 0)) 34)).setRow A (shC (shF f 0))) (some A) := ⟨rfl, rfl, rfl, by simp [World.setRow], fun j _ hj => setRow_other _ A j _ (fun e => hj (by rw [e]))⟩
    exact ⟨HT.out.young (tp_alloc T1.out _) hs (fun k hk => by simp at hk; omega), grownBy_own (grownBy_own G1.out (World.grownBy_alloc w1 _ none) (fun k hk => by cases hk)) hs (fun k hk => by simp at hk; omega), has_setRow X0, has_setRow_ne (K1.out.alloc _) (by omega), ⟨by omega, by omega, by omega⟩, ⟨by omega, by simp [World.setRow]; omega⟩, shF_lsts _ _ _ _ _⟩
  obtain ⟨X, hX⟩ : ∃ X, (w1.alloc (.cells (shC (shF 0 0)) 34)).setRow A (shC (shF f 0)) = X := ⟨_, rfl⟩
  rw [hX] at S0
  try rw [hX]
  clear hX X0 hA T1 G1 K1
  have S := Lib.hid S0
  clear S0
  have c0 := S.out.has.cell 0 _ rfl
  go_upto_if 15 with fail
  go_cut [15] (fun _ wx => ∃ n : Int, OkN (shF f n) ∧ TS2 w g v R A z (A + 1) (shF f n) wx)
  case first =>
    by_cases hf : f = 2
    · subst hf
      clear c0
      go_wp2_with fail
      refine (t_next g v 5 _ (by omega) (by omega) S.out.tape).mono ?_
      rintro e w2 ⟨n, rfl, n0, n1, ht, hg⟩
      have S1 := S.out.call ht hg
      have c1 := S1.has.cell 1 _ rfl
      have fz := has_fro S1.has
      have S2 := Lib.hid (S1.put (s' := shF 2 (2 + n)) HT.out 1 (.int .i64 (2 + n)) rfl (shF_lsts _ _ _ _ _))
      clear S1 ht hg S
      go_wp2_with fail
      go_meet
      case rel => exact ⟨2 + n, ⟨f0, f1, Or.inl ⟨rfl, (by omega : 2 ≤ 2 + n), (by omega : 2 + n ≤ 6)⟩⟩, S2.out⟩
    · have hf' : (f == 2) = false := by simp [hf]
      have ON : Hid (OkN (shF f 0)) := Lib.hid ⟨f0, (by omega : f ≤ 3), Or.inr ⟨hf, rfl⟩⟩
      go_wp2_with fail
      go_meet
      case rel => exact ⟨0, ON.out, S.out⟩
  case rest =>
    obtain ⟨n, on, ts⟩ := hcut
    have N := Lib.hid on
    have S1 := Lib.hid ts
    clear on ts S c0
    have c0 := S1.out.has.cell 0 _ rfl
    go_upto_if 22 with fail
    go_cut [22] (fun _ wx => ∃ M, MT true w g v R A z M wx)
    case first =>
      by_cases hf : f = 3
      · subst hf
        clear c0 f0 f1
        go_wp2_with fail
        refine (t_next g v 3 _ (by omega) (by omega) S1.out.tape).mono ?_
        rintro e w2 ⟨x, rfl, x0, x1, ht, hg⟩
        have S2 := Lib.hid (S1.out.call ht hg)
        obtain ⟨k, hk, k1, k3⟩ : ∃ k : Nat, 1 + x = (k : Int) ∧ 1 ≤ k ∧ k ≤ 3 := ⟨(1 + x).toNat, by omega, by omega, by omega⟩
        have KB : Hid (1 ≤ k ∧ k ≤ 3) := Lib.hid ⟨k1, k3⟩
        clear ht hg S1 x0 x1 k1
        go_wp2_with fail
        clear hk
        refine (t_next g v 2 _ (by omega) (by omega) S2.out.tape).mono ?_
        rintro e w3 ⟨y, rfl, y0, y1, ht, hg⟩
        have S3 := Lib.hid (S2.out.call ht hg)
        obtain ⟨c, hc⟩ : ∃ c : Bool, (y == 0) = c := ⟨_, rfl⟩
        clear ht hg S2 y0 y1 k3
        go_wp2_with fail
        clear hc
        refine (t_next g v 4 _ (by omega) (by omega) S3.out.tape).mono ?_
        rintro e w4 ⟨A0, rfl, a0, a1, ht, hg⟩
        have S4 := Lib.hid (S3.out.call ht hg)
        clear ht hg S3
        go_wp2_with fail
        refine (t_next g v 3 _ (by omega) (by omega) S4.out.tape).mono ?_
        rintro e w5 ⟨y, rfl, y0, y1, ht, hg⟩
        obtain ⟨m0, hm0, m1, m3⟩ : ∃ m : Nat, 1 + y = (m : Int) ∧ 1 ≤ m ∧ m ≤ 3 := ⟨(1 + y).toNat, by omega, by omega, by omega⟩
        have MB : Hid (1 ≤ m0 ∧ m0 ≤ 3) := Lib.hid ⟨m1, m3⟩
        have D0 : Dr w g v R A z c k A0 (shF 3 n) [] nilF w5 := ⟨S4.out.call ht hg, World.ownsRow_nil _ _ _ _, fun i hi => by simp at hi, fun i hi => by simp at hi, Mk2.nil, fun i hi => by simp at hi, fun i hi => by simp at hi, a0, by simp; omega⟩
        have HD0 := Lib.hid D0
        clear D0 ht hg S4 y0 y1 m1
        go_wp2
        clear hm0 m3
        go_loopw [6, 7, 8] (fun at' kk _ wr => ∃ (m : Nat) (At : Int) (ks : List Pk) (lw : Value), kk = .int .i64 m ∧ at' = .int .i64 At ∧ m + ks.length ≤ 3 ∧ 1 ≤ m + ks.length ∧ Dr w g v R A z c k At (shF 3 n) ks lw wr) (fun _ kk _ _ => (intOf kk).toNat)
        case atStart => exact ⟨m0, A0, [], _, rfl, rfl, by have := MB.out; simp; omega, by have := MB.out; simp; omega, HD0.out⟩
        case round =>
          clear HD0 a0 a1
          obtain ⟨m, At, ks, lw, rfl, rfl, hml, hm1, hD⟩ := hrel
          have ML : Hid (m + ks.length ≤ 3 ∧ 1 ≤ m + ks.length) := Lib.hid ⟨hml, hm1⟩
          have D := Lib.hid hD
          have A1 := hD.a0
          have A2 : At ≤ 21 := by have := hD.a1; omega
          obtain ⟨aol, capl, rfl⟩ := hD.len
          clear hml hm1 hD
          rcases (show m = 0 ∨ ∃ j : Nat, m = j + 1 from by cases m with | zero => exact Or.inl rfl | succ j => exact Or.inr ⟨j, rfl⟩) with rfl | ⟨m, rfl⟩
          rotate_left
          · have LF : Hid (ks.length ≤ 100) := Lib.hid (by have := ML.out; omega)
            have L2 : Hid (ks.length ≤ 2) := Lib.hid (by have := ML.out; omega)
            have m3 : (m : Int) ≤ 3 := by have := ML.out; omega
            go_wp2_with fail
            refine (t_path g v k c _ (by have := KB.out; omega) D.out.t.tape).mono ?_
            rintro e w6 ⟨vp, ps, rfl, hl, sm, ho, ht, hg⟩
            have D6 := Lib.hid (D.out.call ht hg)
            have NE6 : Hid (∀ j, vp.ownBlock = some j → Value.ownBlock (.slice aol ks.length capl) ≠ some j) := Lib.hid (fun j hj e => by have := (ho.base j hj).1; have := (D.out.own.base j e).2; omega)
            have P6 := Lib.hid (ho.lower (B' := A + 1) (by have := D.out.t.am; omega))
            have SM := Lib.hid sm
            have HL := Lib.hid hl
            clear ht hg ho sm hl D
            obtain ⟨aop, capp, rfl⟩ := P6.out.len
            obtain ⟨XX, hXX⟩ : ∃ X, w6.alloc (.cells (pkCells ⟨At, c, .slice aop ps.length capp, ps, 0, 0, 0, 0, 0⟩) 43) = X := ⟨_, rfl⟩
            obtain ⟨gx, hgx⟩ : ∃ g, w6.heap.size = g := ⟨_, rfl⟩
            have DX : Hid (Dr w g v R A z c k At (shF 3 n) ks (.slice aol ks.length capl) XX) := Lib.hid (by rw [← hXX]; exact D6.out.alloc _)
            have KX : Hid (Has XX gx (pkCells ⟨At, c, .slice aop ps.length capp, ps, 0, 0, 0, 0, 0⟩) 43) := Lib.hid (by rw [← hXX]; exact has_new hgx)
            have PX : Hid (Pown XX (A + 1) (.slice aop ps.length capp) ps) := Lib.hid (by rw [← hXX]; exact P6.out.alloc _)
            have HXX := Lib.hid hXX
            have HGX := Lib.hid hgx
            have NG : Hid (gx ≠ g ∧ g < A + 1) := Lib.hid (by have := D6.out.t.tape.lt; have := D6.out.t.ga; omega)
            clear hXX
            go_upto_region 11 with fail
            rw [HXX.out]
            clear hgx HXX
            go_wp2_with fail
            refine (t_how g v _ DX.out.t.tape).mono ?_
            rintro e w7 ⟨kh, ea, eb, ec, ed, rfl, ok, ht, hg⟩
            have D7 := DX.out.call ht hg
            have K7 := has_grown KX.out hg NG.out.1
            have P7 := PX.out.young hg NG.out.2
            have hs : w7.grownBy (((((w7.setCell ⟨gx, 3, none⟩ (.int .i64 kh)).setCell ⟨gx, 4, none⟩ (.int .i64 ea)).setCell ⟨gx, 5, none⟩ (.int .i64 eb)).setCell ⟨gx, 6, none⟩ (.int .i64 ec)).setCell ⟨gx, 7, none⟩ (.int .i64 ed)) (some gx) := grownBy_set (grownBy_set (grownBy_set (grownBy_set (grownBy_set (World.grownBy.refl _ _) _ _) _ _) _ _) _ _) _ _
            have DY := Dr.set HT.out D6.out D7 (Nat.le_of_eq HGX.out) hs
            have KY : Has (((((w7.setCell ⟨gx, 3, none⟩ (.int .i64 kh)).setCell ⟨gx, 4, none⟩ (.int .i64 ea)).setCell ⟨gx, 5, none⟩ (.int .i64 eb)).setCell ⟨gx, 6, none⟩ (.int .i64 ec)).setCell ⟨gx, 7, none⟩ (.int .i64 ed)) gx (pkCells ⟨At, c, .slice aop ps.length capp, ps, kh, ea, eb, ec, ed⟩) 43 := has_set (has_set (has_set (has_set (has_set K7 3 _) 4 _) 5 _) 6 _) 7 _
            have PY := P7.kept hs (fun j hj e => by simp at hj; have := (P6.out.base j e).2; have := HGX.out; omega)
            obtain ⟨YY, hYY⟩ : ∃ Y, (((((w7.setCell ⟨gx, 3, none⟩ (.int .i64 kh)).setCell ⟨gx, 4, none⟩ (.int .i64 ea)).setCell ⟨gx, 5, none⟩ (.int .i64 eb)).setCell ⟨gx, 6, none⟩ (.int .i64 ec)).setCell ⟨gx, 7, none⟩ (.int .i64 ed)) = Y := ⟨_, rfl⟩
            rw [hYY] at DY KY PY
            have HYY := Lib.hid hYY
            have HDY := Lib.hid DY
            have HKY := Lib.hid KY
            have HPY := Lib.hid PY
            have OK := Lib.hid ok
            have x3 := K7.cell 3 _ rfl
            have x4 := K7.cell 4 _ rfl
            have x5 := K7.cell 5 _ rfl
            have x6 := K7.cell 6 _ rfl
            have x7 := K7.cell 7 _ rfl
            have fz := has_fro K7
            clear hYY DY KY PY ok ht hg D7 K7 P7 hs DX KX PX D6 P6 HGX
            go_upto_region 12 with fail
            rw [HYY.out]
            clear x3 x4 x5 x6 x7 fz HYY
            have x0 := HKY.out.cell 0 _ rfl
            have x1 := HKY.out.cell 1 _ rfl
            have x2 := HKY.out.cell 2 _ rfl
            have x3 := HKY.out.cell 3 _ rfl
            have x4 := HKY.out.cell 4 _ rfl
            have x5 := HKY.out.cell 5 _ rfl
            have x6 := HKY.out.cell 6 _ rfl
            have x7 := HKY.out.cell 7 _ rfl
            have c4 := HDY.out.t.has.cell 4 (.slice aol ks.length capl) rfl
            have SZ : Hid (A + 1 ≤ (YY.alloc (.cells (pkCells ⟨At, c, (.slice aop ps.length capp), ps, kh, ea, eb, ec, ed⟩) 43)).heap.size) := Lib.hid (by have := HDY.out.t.am; simp; omega)
            go_wp2_with (at_builtin; refine wpList_append_pk rfl _ _ rfl LF.out rfl YY.heap.size rfl ⟨At, c, (.slice aop ps.length capp), ps, kh, ea, eb, ec, ed⟩ ⟨_, _, _, rfl⟩ has_new0 (HDY.out.alloc _).own SZ.out ?_)
            intro g' cap' w8 ho8 hg8 hat8
            have M8 := Lib.hid (fun (At' : Int) (h1 : At + 1 ≤ At') (h2 : At' ≤ At + 6) => Dr.snoc (At' := At') HT.out (HDY.out.alloc _) L2.out rfl OK.out SM.out KB.out.1 (by have := KB.out; omega) ⟨rfl, HL.out⟩ (HPY.out.alloc _) NE6.out h1 h2 ho8 hg8 (by simpa using hat8))
            have h8 := ((HDY.out.alloc (.cells (pkCells ⟨At, c, (.slice aop ps.length capp), ps, kh, ea, eb, ec, ed⟩) 43)).t.step HT.out hg8 (fun j hj => ((HDY.out.alloc (.cells (pkCells ⟨At, c, (.slice aop ps.length capp), ps, kh, ea, eb, ec, ed⟩) 43)).own.base j hj).1)).has
            have c8 := h8.cell 4 (.slice aol ks.length capl) rfl
            have fz := has_fro h8
            obtain ⟨ZZ, hZZ⟩ : ∃ Z, w8.setCell ⟨A, 4, none⟩ (.slice (some ⟨g', 0, none⟩) (ks.length + 1) cap') = Z := ⟨_, rfl⟩
            rw [hZZ] at M8
            have HZZ := Lib.hid hZZ
            clear ho8 hg8 hat8 h8 hZZ x0 x1 x2 x3 x4 x5 x6 x7 c4 HKY HPY HDY SZ
            go_upto_region 13 with fail
            rw [HZZ.out]
            clear c8 fz HZZ
            have T8 := Lib.hid (M8.out (At + 1) (by omega) (by omega)).t.tape
            go_wp2_with fail
            refine (t_next g v 6 _ (by omega) (by omega) T8.out).mono ?_
            rintro e w9 ⟨z', rfl, z0, z1, ht, hg⟩
            have M9 := Lib.hid ((M8.out (At + 1 + z') (by omega) (by omega)).call ht hg)
            clear ht hg T8 M8
            go_wp2
            go_roundw
            case rel => exact ⟨m, At + 1 + z', _, _, by go_num, rfl, by have := ML.out; simp; omega, by have := ML.out; simp; omega, M9.out⟩
            case measure => simp [intOf]
          · have NP : Hid (0 < ks.length) := Lib.hid (by have := ML.out; omega)
            go_wp2_with fail
            go_meet
            case rel => exact ⟨_, _, shF_drawn N.out D.out.made NP.out, fun _ => ⟨rfl, rfl⟩, D.out.done⟩
      · have hf' : (f == 3) = false := by simp [hf]
        have HF := Lib.hid hf
        obtain ⟨M, hM⟩ : ∃ M, A + 1 = M := ⟨_, rfl⟩
        rw [hM] at S1
        clear c0 hM hf
        go_wp2_with fail
        obtain ⟨B, hB⟩ : ∃ B, wc.heap.size = B := ⟨_, rfl⟩
        have MB : Hid (M ≤ B) := Lib.hid (by have := S1.out.am; omega)
        have GB : Hid (g < B ∧ A < B) := Lib.hid (by have := S1.out.ga; have := S1.out.am; omega)
        have HB := Lib.hid hB
        clear hB
        refine (t_keysG g v 1 14 _ (by omega) (by omega) (by omega) S1.out.tape).mono ?_
        rintro e wa ⟨l, qs, At, rfl, kq, l3, ho, ht, hg⟩
        rw [HB.out] at ho
        have Sa := Lib.hid (S1.out.call ht hg)
        have Oa := Lib.hid ho
        have KQ := Lib.hid kq
        have L3 := Lib.hid l3
        have ZA : Hid (B ≤ wa.heap.size) := Lib.hid (by have := hg.size; have := HB.out; omega)
        obtain ⟨aol, capl, rfl⟩ := ho.len
        clear ht hg ho kq l3 S1
        go_wp2_with fail
        refine (t_number g v 1 14 _ (by omega) (by omega) (by omega) Sa.out.tape).mono ?_
        rintro e wb ⟨x, rfl, x0, x1, ht, hg⟩
        have Sb := Lib.hid ((Sa.out.call ht hg).alloc (.cells (kCells ⟨60, x, 0, 0, 0, 0, 0⟩) 38))
        have Ob := Lib.hid (Own.alloc (Oa.out.kept hg (fun k hk e => by simp at hk; have := (World.ownsRow.lt Oa.out k e).1; have := GB.out; omega)) (.cells (kCells ⟨60, x, 0, 0, 0, 0, 0⟩) 38))
        have Zb : Hid (B ≤ (wb.alloc (.cells (kCells ⟨60, x, 0, 0, 0, 0, 0⟩) 38)).heap.size) := Lib.hid (by have := ZA.out; have := hg.size; simp; omega)
        have XB : Hid (1 * 65536 ≤ x ∧ x ≤ 14 * 65536 + 65535) := Lib.hid ⟨by omega, by omega⟩
        have L9 : Hid (qs.length ≤ 900) := Lib.hid (by have := L3.out; omega)
        clear ht hg x0 x1 Sa Oa
        go_wp2_with (at_builtin; refine wpList_append_ky rfl _ _ rfl rfl wb.heap.size rfl ⟨60, x, 0, 0, 0, 0, 0⟩ has_new0 Ob.out L9.out Zb.out ?_)
        intro l' wd hown' hg'

        have tk := Sb.out.keys HT.out Ob.out MB.out L3.out hown' hg'
        have KW := Lib.hid (K60.of KQ.out L3.out (by omega) (by omega) XB.out.1 XB.out.2)
        obtain ⟨aoW, capW, rfl⟩ := owns_len hown'
        have SW := TS2.setW HT.out Sb.out Ob.out MB.out L3.out hown' hg'
        have cj := tk.1.has.cell 2 _ rfl
        have fz := has_fro tk.1.has
        clear tk hown' hg' Sb Ob XB L9 Zb MB GB HB L3 KQ ZA
        obtain ⟨kW, hk⟩ : ∃ y, qs ++ [Ky.mk 60 x 0 0 0 0 0] = y := ⟨_, rfl⟩
        rw [hk] at SW KW
        clear hk
        obtain ⟨M2, hM2⟩ : ∃ M, wd.heap.size = M := ⟨_, rfl⟩
        rw [hM2] at SW
        obtain ⟨XW, hX⟩ : ∃ X, wd.setCell ⟨A, 2, none⟩ (.slice aoW (qs.length + 1) capW) = X := ⟨_, rfl⟩
        rw [hX] at SW
        have S2 := Lib.hid SW
        have HX := Lib.hid hX
        clear SW hX hM2
        go_upto_region 15 with fail
        rw [HX.out]
        clear HX cj fz
        go_wp2_with fail
        obtain ⟨B, hB⟩ : ∃ B, XW.heap.size = B := ⟨_, rfl⟩
        have MB : Hid (M2 ≤ B) := Lib.hid (by have := S2.out.am; omega)
        have GB : Hid (g < B ∧ A < B) := Lib.hid (by have := S2.out.ga; have := S2.out.am; omega)
        have HB := Lib.hid hB
        clear hB
        refine (t_keysG g v 1 14 _ (by omega) (by omega) (by omega) S2.out.tape).mono ?_
        rintro e wa ⟨l, qs, At, rfl, kq, l3, ho, ht, hg⟩
        rw [HB.out] at ho
        have Sa := Lib.hid (S2.out.call ht hg)
        have Oa := Lib.hid ho
        have KQ := Lib.hid kq
        have L3 := Lib.hid l3
        have ZA : Hid (B ≤ wa.heap.size) := Lib.hid (by have := hg.size; have := HB.out; omega)
        obtain ⟨aol, capl, rfl⟩ := ho.len
        clear ht hg ho kq l3 S2
        go_wp2_with fail
        refine (t_number g v 1 14 _ (by omega) (by omega) (by omega) Sa.out.tape).mono ?_
        rintro e wb ⟨x, rfl, x0, x1, ht, hg⟩
        have Sb := Lib.hid ((Sa.out.call ht hg).alloc (.cells (kCells ⟨60, x, 0, 0, 0, 0, 0⟩) 38))
        have Ob := Lib.hid (Own.alloc (Oa.out.kept hg (fun k hk e => by simp at hk; have := (World.ownsRow.lt Oa.out k e).1; have := GB.out; omega)) (.cells (kCells ⟨60, x, 0, 0, 0, 0, 0⟩) 38))
        have Zb : Hid (B ≤ (wb.alloc (.cells (kCells ⟨60, x, 0, 0, 0, 0, 0⟩) 38)).heap.size) := Lib.hid (by have := ZA.out; have := hg.size; simp; omega)
        have XB : Hid (1 * 65536 ≤ x ∧ x ≤ 14 * 65536 + 65535) := Lib.hid ⟨by omega, by omega⟩
        have L9 : Hid (qs.length ≤ 900) := Lib.hid (by have := L3.out; omega)
        clear ht hg x0 x1 Sa Oa
        go_wp2_with (at_builtin; refine wpList_append_ky rfl _ _ rfl rfl wb.heap.size rfl ⟨60, x, 0, 0, 0, 0, 0⟩ has_new0 Ob.out L9.out Zb.out ?_)
        intro l' wd hown' hg'

        have tk := Sb.out.keys HT.out Ob.out MB.out L3.out hown' hg'
        have KH := Lib.hid (K60.of KQ.out L3.out (by omega) (by omega) XB.out.1 XB.out.2)
        obtain ⟨aoH, capH, rfl⟩ := owns_len hown'
        have SW := TS2.setH HT.out Sb.out Ob.out MB.out L3.out hown' hg'
        have cj := tk.1.has.cell 3 _ rfl
        have fz := has_fro tk.1.has
        clear tk hown' hg' Sb Ob XB L9 Zb MB GB HB L3 KQ ZA
        obtain ⟨kH, hk⟩ : ∃ y, qs ++ [Ky.mk 60 x 0 0 0 0 0] = y := ⟨_, rfl⟩
        rw [hk] at SW KH
        clear hk
        obtain ⟨M3, hM2⟩ : ∃ M, wd.heap.size = M := ⟨_, rfl⟩
        rw [hM2] at SW
        obtain ⟨XH, hX⟩ : ∃ X, wd.setCell ⟨A, 3, none⟩ (.slice aoH (qs.length + 1) capH) = X := ⟨_, rfl⟩
        rw [hX] at SW
        have S3 := Lib.hid SW
        have HX := Lib.hid hX
        clear SW hX hM2

        go_wp2_with fail
        rw [HX.out]
        go_meet
        case rel => exact ⟨M3, _, shF_form N.out HF.out KW.out KH.out, fun _ => ⟨rfl, rfl⟩, S3.out⟩
    case rest =>
      obtain ⟨M, m⟩ := hcut
      have Q := Lib.hid m
      clear m N S1 c0 f0 f1

      go_wp2_with fail
      refine (t_next g v 3 _ (by omega) (by omega) Q.out.tape).mono ?_
      rintro e w2 ⟨x, rfl, x0, x1, ht, hg⟩
      obtain ⟨b, hb⟩ : ∃ b : Bool, decide (0 < x) = b := ⟨_, rfl⟩

      have q := Q.out.call ht hg
      obtain ⟨s, hs⟩ := q.cells
      have cj := hs.cell 5 _ rfl
      have fz := has_fro hs

      have q' := q.fill HT.out b
      obtain ⟨X1, hX⟩ : ∃ X, w2.setCell ⟨A, 5, none⟩ (.bool b) = X := ⟨_, rfl⟩
      rw [hX] at q'
      have Q1 := Lib.hid q'
      have HX := Lib.hid hX
      clear ht hg hX hs q q' Q x0 x1 

      go_upto_region 17 with fail

      rw [HX.out]
      clear HX cj fz hb
      go_wp2_with fail
      refine (t_next g v 2 _ (by omega) (by omega) Q1.out.tape).mono ?_
      rintro e w3 ⟨y, rfl, x0, x1, ht, hg⟩

      have q := Q1.out.call ht hg
      obtain ⟨s, hs⟩ := q.cells
      have cj := hs.cell 6 _ rfl
      have fz := has_fro hs

      have q' := q.rule HT.out (x := y) (by omega)
      obtain ⟨X2, hX⟩ : ∃ X, w3.setCell ⟨A, 6, none⟩ (.int .i64 y) = X := ⟨_, rfl⟩
      rw [hX] at q'
      have Q2 := Lib.hid q'
      have HX := Lib.hid hX
      clear ht hg hX hs q q' Q1 x0 x1 

      go_upto_region 18 with fail

      rw [HX.out]
      clear HX cj fz
      go_wp2_with fail
      refine (t_paint g v _ Q2.out.tape).mono ?_
      rintro e w4 ⟨pk, pa, pb, pp, pq, pr, rfl, k0, -, -, bd, ht, hg⟩
      have q := Q2.out.call ht hg
      obtain ⟨s, hs⟩ := q.cells
      have p7 := hs.cell 7 _ rfl
      have p8 := hs.cell 8 _ rfl
      have p9 := hs.cell 9 _ rfl
      have p10 := hs.cell 10 _ rfl
      have p11 := hs.cell 11 _ rfl
      have p12 := hs.cell 12 _ rfl
      have p13 := hs.cell 13 _ rfl
      have p14 := hs.cell 14 _ rfl
      have p15 := hs.cell 15 _ rfl
      have p16 := hs.cell 16 _ rfl
      have p17 := hs.cell 17 _ rfl
      have p18 := hs.cell 18 _ rfl
      have p19 := hs.cell 19 _ rfl
      have p20 := hs.cell 20 _ rfl
      have fz := has_fro hs
      have q' := q.paint HT.out (a := pa) (b := pb) k0 bd
      obtain ⟨X3, hX⟩ : ∃ X, paintW w4 A pk pa pb pp pq pr = X := ⟨_, rfl⟩
      rw [hX] at q'
      have Q3 := Lib.hid q'
      unfold paintW at hX
      have HX := Lib.hid hX
      clear ht hg hX hs q q' Q2 k0 bd
      go_upto_region 19 with fail
      rw [HX.out]
      clear HX p7 p8 p9 p10 p11 p12 p13 p14 p15 p16 p17 p18 p19 p20 fz

      go_wp2_with fail
      refine (t_next g v 3 _ (by omega) (by omega) Q3.out.tape).mono ?_
      rintro e w5 ⟨x, rfl, x0, x1, ht, hg⟩

      have Q4 := Lib.hid (Q3.out.call ht hg)
      obtain ⟨b, hb⟩ : ∃ b : Bool, (x == 0) = b := ⟨_, rfl⟩
      clear ht hg Q3
      go_upto_if 90 with fail
      clear hb x0 x1
      go_cut [90] (fun _ wx => ∃ M, MT true w g v R A z M wx)
      case first =>
        cases b
        · go_wp2_with fail
          go_meet
          case rel => exact ⟨M, Q4.out⟩
        · go_wp2_with fail
          refine (t_next g v 5 _ (by omega) (by omega) Q4.out.tape).mono ?_
          rintro e w6 ⟨x, rfl, x0, x1, ht, hg⟩
          have Q5 := Lib.hid (Q4.out.call ht hg)
          clear ht hg Q4
          go_wp2_with fail
          refine (t_color g v _ Q5.out.tape).mono ?_
          rintro e w7 ⟨ca, rfl, oa, ht, hg⟩
          have Q6 := Lib.hid (Q5.out.call ht hg)
          have OA := Lib.hid oa
          clear ht hg Q5 oa
          go_wp2_with fail
          refine (t_next g v 9 _ (by omega) (by omega) Q6.out.tape).mono ?_
          rintro e w8 ⟨y, rfl, y0, y1, ht, hg⟩
          have Q7 := Lib.hid (Q6.out.call ht hg)
          clear ht hg Q6
          go_wp2_with fail
          refine (t_color g v _ Q7.out.tape).mono ?_
          rintro e w9 ⟨cb, rfl, ob, ht, hg⟩
          have OB := Lib.hid ob
          have Q8 := (Q7.out.call ht hg).alloc (.cells #[.int .i64 x, .int .u8 ca.r, .int .u8 ca.g, .int .u8 ca.b, .int .u8 ca.q, .int .i64 1, .int .i64 0, .int .i64 0, .int .i64 0, .int .i64 0, .int .i64 (5 + y), .int .u8 cb.r, .int .u8 cb.g, .int .u8 cb.b, .int .u8 cb.q, .int .i64 0, .int .i64 0, .int .i64 0, .int .i64 0, .int .i64 0] 45)
          have am := (Q7.out.call ht hg).am
          obtain ⟨G, hG⟩ : ∃ G, w9.heap.size = G := ⟨_, rfl⟩
          have cl := colors_lie (w := w9.alloc (.cells #[.int .i64 x, .int .u8 ca.r, .int .u8 ca.g, .int .u8 ca.b, .int .u8 ca.q, .int .i64 1, .int .i64 0, .int .i64 0, .int .i64 0, .int .i64 0, .int .i64 (5 + y), .int .u8 cb.r, .int .u8 cb.g, .int .u8 cb.b, .int .u8 cb.q, .int .i64 0, .int .i64 0, .int .i64 0, .int .i64 0, .int .i64 0] 45)) OA.out OB.out (has_new hG)
          have q' := Q8.colors HT.out (colors_right ca cb x0 (by omega) y0 (by omega)) cl (fun k hk => by have e' : some G = some k := hk; simp at e'; simp; omega)
          obtain ⟨s, hs⟩ := Q8.cells
          have cj := hs.cell 21 _ rfl
          have fz := has_fro hs
          have QX := Lib.hid q'
          have hGG : w9.heap.size = G := hG
          clear ht hg Q7 Q8 am cl q' hs ob x0 x1 y0 y1 hG
          go_wp2_with fail
          go_meet
          case rel => exact ⟨_, QX.out⟩
      case rest =>
        clear Q4
        obtain ⟨M, m⟩ := hcut
        have Q := Lib.hid m
        clear m
        go_upto_region 21 with fail
        go_cut [112] (fun _ wx => ∃ M, MT true w g v R A z M wx)
        case first =>
          go_wp2_with fail
          refine (t_next g v 3 _ (by omega) (by omega) Q.out.tape).mono ?_
          rintro e w2 ⟨x, rfl, x0, x1, ht, hg⟩
          obtain ⟨b, hb⟩ : ∃ b : Bool, (x == 0) = b := ⟨_, rfl⟩
          have q := Q.out.call ht hg
          obtain ⟨s, hs⟩ := q.cells
          obtain ⟨fl, hfl⟩ : ∃ fl, s.fill = fl := ⟨_, rfl⟩
          have c5 := hs.cell 5 (.bool s.fill) rfl
          have cj := hs.cell 22 _ rfl
          rw [hfl] at c5
          have fz := has_fro hs
          have QX := Lib.hid (fun b => q.stroke HT.out b)
          clear ht hg hs q Q x0 x1 hfl
          cases b
          · go_wp2_with fail
            go_meet
            case rel => exact ⟨M, QX.out _⟩
          · go_wp2_with fail
            go_meet
            case rel => exact ⟨M, QX.out _⟩
        case rest =>
          obtain ⟨M, m⟩ := hcut
          clear Q
          have Q := Lib.hid m
          obtain ⟨s, hs⟩ := m.cells
          obtain ⟨st, hst⟩ : ∃ st, s.stroke = st := ⟨_, rfl⟩
          have cj := hs.cell 22 (.bool s.stroke) rfl
          rw [hst] at cj
          clear hst m hs
          go_upto_if 114 with fail
          clear cj
          go_cut [114] (fun _ wx => ∃ M, MT false w g v R A z M wx)
          case first =>
            cases st
            · go_wp2_with fail
              go_meet
              case rel => exact ⟨M, Q.out.weak⟩
            · go_wp2_with fail
              obtain ⟨B, hB⟩ : ∃ B, wc.heap.size = B := ⟨_, rfl⟩
              have MB : Hid (M ≤ B) := Lib.hid (by have := Q.out.am; omega)
              have GB : Hid (g < B ∧ A < B) := Lib.hid (by have := Q.out.ga; have := Q.out.am; omega)
              have HB := Lib.hid hB
              clear hB
              refine (t_keysG g v 0 4 _ (by omega) (by omega) (by omega) Q.out.tape).mono ?_
              rintro e wa ⟨l, qs, At, rfl, kq, l3, ho, ht, hg⟩
              rw [HB.out] at ho
              have Sa := Lib.hid (Q.out.call ht hg)
              have Oa := Lib.hid ho
              have KQ := Lib.hid kq
              have L3 := Lib.hid l3
              have ZA : Hid (B ≤ wa.heap.size) := Lib.hid (by have := hg.size; have := HB.out; omega)
              obtain ⟨aol, capl, rfl⟩ := ho.len
              clear ht hg ho kq l3 Q
              go_wp2_with fail
              refine (t_number g v 1 4 _ (by omega) (by omega) (by omega) Sa.out.tape).mono ?_
              rintro e wb ⟨x, rfl, x0, x1, ht, hg⟩
              have Sb := Lib.hid ((Sa.out.call ht hg).alloc (.cells (kCells ⟨60, x, 0, 0, 0, 0, 0⟩) 38))
              have Ob := Lib.hid (Own.alloc (Oa.out.kept hg (fun k hk e => by simp at hk; have := (World.ownsRow.lt Oa.out k e).1; have := GB.out; omega)) (.cells (kCells ⟨60, x, 0, 0, 0, 0, 0⟩) 38))
              have Zb : Hid (B ≤ (wb.alloc (.cells (kCells ⟨60, x, 0, 0, 0, 0, 0⟩) 38)).heap.size) := Lib.hid (by have := ZA.out; have := hg.size; simp; omega)
              have XB : Hid (1 * 65536 ≤ x ∧ x ≤ 4 * 65536 + 65535) := Lib.hid ⟨by omega, by omega⟩
              have L9 : Hid (qs.length ≤ 900) := Lib.hid (by have := L3.out; omega)
              clear ht hg x0 x1 Sa Oa
              go_wp2_with (at_builtin; refine wpList_append_ky rfl _ _ rfl rfl wb.heap.size rfl ⟨60, x, 0, 0, 0, 0, 0⟩ has_new0 Ob.out L9.out Zb.out ?_)
              intro l' wd hown' hg'

              have KR := (K60.of KQ.out L3.out (by omega) (by omega) (by have := XB.out.1; omega) XB.out.2).right
              obtain ⟨aow, capw, rfl⟩ := owns_len hown'
              have q' := Sb.out.width HT.out Ob.out MB.out L3.out KR hown' hg'
              obtain ⟨s, -, -, t⟩ := Sb.out
              have hs := (t.keys HT.out Ob.out MB.out L3.out hown' hg').1.has
              have cj := hs.cell 23 _ rfl
              have fz := has_fro hs
              obtain ⟨M5, hM5⟩ : ∃ y, wd.heap.size = y := ⟨_, rfl⟩
              rw [hM5] at q'
              obtain ⟨X5, hX⟩ : ∃ X, wd.setCell ⟨A, 23, none⟩ (.slice aow (qs.length + 1) capw) = X := ⟨_, rfl⟩
              rw [hX] at q'
              have Q5 := Lib.hid q'
              have HX := Lib.hid hX
              clear q' hX hM5 hs t hown' hg' KR Sb Ob XB L9 Zb MB GB HB L3 KQ ZA
              go_upto_region 24 with fail
              rw [HX.out]
              clear HX cj fz
              go_wp2_with fail
              refine (t_color g v _ Q5.out.tape).mono ?_
              rintro e w6 ⟨c, rfl, -, ht, hg⟩
              have q := Q5.out.call ht hg
              obtain ⟨s, hs⟩ := q.cells
              have p24 := hs.cell 24 _ rfl
              have p25 := hs.cell 25 _ rfl
              have p26 := hs.cell 26 _ rfl
              have p27 := hs.cell 27 _ rfl
              have fz := has_fro hs
              have q' := q.line HT.out c
              obtain ⟨X6, hX⟩ : ∃ X, lineW w6 A c = X := ⟨_, rfl⟩
              rw [hX] at q'
              unfold lineW at hX
              have Q6 := Lib.hid q'
              have HX := Lib.hid hX
              clear ht hg hX hs q q' Q5
              go_upto_region 25 with fail
              rw [HX.out]
              clear HX p24 p25 p26 p27 fz

              go_wp2_with fail
              refine (t_next g v 2 _ (by omega) (by omega) Q6.out.tape).mono ?_
              rintro e w7 ⟨y, rfl, x0, x1, ht, hg⟩

              have q := Q6.out.call ht hg
              obtain ⟨s, hs⟩ := q.cells
              have cj := hs.cell 28 _ rfl
              have fz := has_fro hs

              have q' := q.cap HT.out (x := y) (by omega)
              obtain ⟨X7, hX⟩ : ∃ X, w7.setCell ⟨A, 28, none⟩ (.int .i64 y) = X := ⟨_, rfl⟩
              rw [hX] at q'
              have Q7 := Lib.hid q'
              have HX := Lib.hid hX
              clear ht hg hX hs q q' Q6 x0 x1 

              go_upto_region 26 with fail

              rw [HX.out]
              clear HX cj fz
              go_wp2_with fail
              refine (t_next g v 4 _ (by omega) (by omega) Q7.out.tape).mono ?_
              rintro e w8 ⟨x, rfl, x0, x1, ht, hg⟩

              have Q8 := Lib.hid (Q7.out.call ht hg)
              have XB : Hid (0 ≤ x ∧ x ≤ 3) := Lib.hid (by omega)
              clear ht hg Q7 x0 x1

              go_wp2_with fail
              refine (t_next g v 2 _ (by omega) (by omega) Q8.out.tape).mono ?_
              rintro e w9 ⟨y, rfl, x0, x1, ht, hg⟩

              obtain ⟨m0, hm0, hm3⟩ : ∃ m : Nat, x * y = (m : Int) ∧ m ≤ 3 := by
                have b := XB.out
                rcases (show y = 0 ∨ y = 1 by omega) with rfl | rfl
                · exact ⟨0, by simp, by omega⟩
                · exact ⟨x.toNat, by omega, by omega⟩
              obtain ⟨s, ms, dl⟩ := (Q8.out.call ht hg).open
              have MS := Lib.hid ms
              have D := Lib.hid dl
              obtain ⟨M9, hM9⟩ : ∃ y, w9.heap.size = y := ⟨_, rfl⟩
              rw [hM9] at D
              have M3 : Hid (m0 ≤ 3) := Lib.hid hm3
              clear ht hg Q8 x0 x1 ms dl XB hM9
              go_wp2
              clear hm0
              go_loopw [9] (fun n wr => ∃ (m : Nat) (xs : List Int) (dv : Value), n = .int .i64 m ∧ m + xs.length ≤ 3 ∧ Dl w g v R A z M9 s xs dv wr) (fun n _ => (intOf n).toNat)
              case atStart => exact ⟨m0, [], _, rfl, by simpa using M3.out, D.out⟩
              case round =>
                clear D M3 hm3
                obtain ⟨m, xs, dv, rfl, hml, hD⟩ := hrel
                have ML := Lib.hid hml
                have D := Lib.hid hD
                clear hD hml
                rcases (show m = 0 ∨ ∃ j : Nat, m = j + 1 from by cases m with | zero => exact Or.inl rfl | succ j => exact Or.inr ⟨j, rfl⟩) with rfl | ⟨m, rfl⟩
                rotate_left
                · have LF : Hid (xs.length ≤ 900) := Lib.hid (by have := ML.out; omega)
                  have m3 : (m : Int) ≤ 3 := by have := ML.out; omega
                  obtain ⟨aod, capd, rfl⟩ := D.out.own.len
                  have L2 : Hid (xs.length ≤ 2) := Lib.hid (by have := ML.out; omega)
                  go_upto_region 29 with fail
                  refine dash_region HT.out (fun c a d v w h => by first | exact h | (cases d <;> exact h)) rfl rfl rfl D.out L2.out (fun y H ao cap w' hD => ?_)
                  have D2 := Lib.hid hD
                  clear hD D
                  go_wp2
                  go_roundw
                  case rel => exact ⟨m, _, _, by go_num, by have := ML.out; simp; omega, D2.out⟩
                  case measure => simp [intOf]
                · have X8 : Hid (xs.length ≤ 8) := Lib.hid (by have := ML.out; omega)
                  have QD := Lib.hid (D.out.done MS.out X8.out)
                  clear D
                  go_wp2_with fail
                  refine (t_next g v 2 _ (by omega) (by omega) QD.out.tape).mono ?_
                  rintro e wa ⟨x, rfl, x0, x1, ht, hg⟩
                  have QE := Lib.hid (QD.out.call ht hg)
                  obtain ⟨b, hb⟩ : ∃ b : Bool, (x == 0) = b := ⟨_, rfl⟩
                  clear ht hg QD
                  go_upto_if 147 with fail
                  clear hb x0 x1
                  cases b
                  · go_wp2_with fail
                    go_meet
                    case rel => exact ⟨_, QE.out⟩
                  · go_wp2_with fail
                    refine (t_keysG g v 0 1 _ (by omega) (by omega) (by omega) QE.out.tape).mono ?_
                    rintro e wb ⟨lf, qf, Af, rfl, kf, l3, ho, ht, hg⟩
                    have QF := Lib.hid (QE.out.call ht hg)
                    have BF : Hid (A < wa.heap.size ∧ g < wa.heap.size) := Lib.hid (by have := QE.out.am; have := QE.out.ga; omega)
                    have OF := Lib.hid ho
                    have KF := Lib.hid kf
                    have LF := Lib.hid l3
                    obtain ⟨aof, capf, rfl⟩ := ho.len
                    clear ht hg ho kf l3 QE
                    go_wp2_with fail
                    refine (t_keysG g v 0 1 _ (by omega) (by omega) (by omega) QF.out.tape).mono ?_
                    rintro e wc2 ⟨lt, qt, At, rfl, kt, l3, ho, ht, hg⟩
                    have QG := QF.out.call ht hg
                    have OF2 := OF.out.kept hg (fun j hj e => by simp at hj; have := (World.ownsRow.lt OF.out j e).1; have := BF.out; omega)
                    have bt : A < wb.heap.size := by have := QF.out.am; omega
                    obtain ⟨aot, capt, rfl⟩ := ho.len
                    have q' := MT.fromTo HT.out QG OF2 ho BF.out.1 bt LF.out l3 (kg_right KF.out LF.out) (kg_right kt l3)
                    obtain ⟨s, hs⟩ := QG.cells
                    have c30 := hs.cell 30 _ rfl
                    have c31 := hs.cell 31 _ rfl
                    have fz := has_fro hs
                    have QX := Lib.hid q'
                    clear ht hg ho kt l3 QG OF2 bt q' hs QF
                    go_wp2_with fail
                    go_meet
                    case rel => exact ⟨_, QX.out⟩

          case rest =>
            clear Q
            obtain ⟨M, m⟩ := hcut
            obtain ⟨s, ms, -, t⟩ := m
            have hk := t.has
            have hr := t.r
            have ones := t.lsts.lie.ones
            have ga := t.ga
            rw [← HZ.out] at hr
            have hs : wc.grownBy (wc.setRow R (shC s)) (some R) := ⟨rfl, rfl, rfl, by simp [World.setRow], fun j _ hj => setRow_other wc R j _ (fun e => hj (by rw [e]))⟩
            have PX := has_setRow (cs := shC s) hr
            have RX : Shapes3L w g v (.returned (.agg (shC s))) (wc.setRow R (shC s)) := ⟨s, rfl, ms, ⟨A, _, by omega, t.lsts.kept (fun k _ k1 _ => setRow_other wc R k _ (by omega))⟩, HT.out.young t.tape hs (fun j hj => by simp at hj; omega), grownBy_own t.grown hs (fun j hj => by simp at hj; omega)⟩
            obtain ⟨X, hX⟩ : ∃ X, wc.setRow R (shC s) = X := ⟨_, rfl⟩
            rw [hX] at PX RX
            have RH := Lib.hid RX
            clear RX hs t ms ga HZ HR HW HNE
            go_upto_region 32 with fail
            apply wp_region_lit
            refine wpList_load_row rfl 34 _ rfl A rfl 34 _ (0, 0) _ hk Tryz.underlying34 rfl (by kernel_rfl) ?_
            refine wpList_store_row rfl 34 _ _ rfl R (shC s) rfl rfl 34 _ hr (by kernel_rfl) rfl ones ?_
            apply wpList_nil
            rw [hX]
            clear hX hk hr
            go_wp2_with fail
            refine bodyPost_ret (v := .agg (shC s)) (results_cell_row rfl _ _ R 34 _ (0, 0) _ rfl PX Tryz.underlying34 rfl (by kernel_rfl)) rfl ?_
            exact RH.out
theorem t_shape (g : Nat) (v : Value) (w : World) (h : Tp w g v) :
    Calls Tryz.prog 8 #[.pointer (some ⟨g, 0, none⟩)] w (Shapes3 w g v) :=
  (t_shapeL g v w h).mono fun _ _ ⟨s, he, m, ⟨_, _, _, l⟩, t, gr⟩ => ⟨s, he, m, l.lie, t, gr⟩

end Go.Proofs.YtglbfpjjnboeaaaGreat
