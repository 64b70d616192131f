/- Contract of mutoscopekeep's Tape.Keys: for every tape it gives keys of its own, three at most, that may be and rise; the tape alone turns. -/
import Derived.Test.YtglbfpjjnboeaaaTK5
import Derived.Test.YtglbfpjjnboeaaaKE5
namespace Go.Proofs.Ytglbfpjjnboeaaa
open Go.RowKit
open M

theorem Own.kept {w w' : World} {B : Nat} {v : Value} {qs : List Ky} {row : Option Nat} (h : Own w B v qs) (hg : w.grownBy w' row) (hr : ∀ k, row = some k → v.ownBlock ≠ some k) : Own w' B v qs := by
  refine World.ownsRow.kept h hg ?_
  by_cases e : v.ownBlock = none
  · exact Or.inl e
  · refine Or.inr fun e2 => ?_
    cases hrow : row with
    | none => rw [hrow] at e2; exact e e2
    | some k => rw [hrow] at e2; exact hr k hrow e2
theorem rightN_left {qs : List Ky} {k : Ky} : ∀ {m : Nat}, m ≤ qs.length → rightN (qs ++ [k]) m = rightN qs m
  | 0, _ => rfl
  | m + 1, h => by
    unfold rightN
    rw [rightN_left (by omega), ky_left (by omega), ky_left (by omega)]
/-- Keys that may be, all of them ahead of the tick A. -/
structure Kept (qs : List Ky) (A : Int) : Prop where
  right : rightN qs qs.length = true
  bot : 0 ≤ A
  top : A ≤ 5 + 8 * qs.length
  last : 0 < qs.length → (ky qs (qs.length - 1)).t < A
theorem Kept.snoc {qs : List Ky} {A : Int} (h : Kept qs A) {k : Ky} {A' : Int} (hk : okK k = true) (ht : k.t = A) (h1 : A + 1 ≤ A') (h2 : A' ≤ A + 8) : Kept (qs ++ [k]) A' := by
  have := h.bot
  have := h.top
  refine ⟨?_, by omega, by simp; omega, ?_⟩
  · rw [List.length_append]
    show rightN (qs ++ [k]) (qs.length + 1) = true
    unfold rightN
    rw [rightN_left (Nat.le_refl _), h.right, ky_last, hk]
    by_cases e : qs.length = 0
    · simp [e]
    · rw [ky_left (by omega)]
      have := h.last (by omega)
      simp
      omega
  · intro _
    rw [List.length_append]
    show (ky (qs ++ [k]) (qs.length + 1 - 1)).t < A'
    rw [Nat.add_sub_cancel, ky_last]
    omega
theorem Kept.nil {A : Int} (h0 : 0 ≤ A) (h1 : A ≤ 5) : Kept [] A := ⟨rfl, h0, by simpa using h1, by simp⟩
theorem okK_of {t v h a b c d : Int} (t0 : 0 ≤ t) (t1 : t ≤ 1000) (v0 : -400000 ≤ v) (v1 : v ≤ 800000) (ok : okHow h a b c d = true) : okK ⟨t, v, h, a, b, c, d⟩ = true := by
  unfold okK okIn
  simp only [ok]
  simp
  omega

/-- Five numbers put into a block that is younger than w. -/
theorem five_put {w w1 : World} {g h B : Nat} {v l : Value} {qs : List Ky} (a b c d f : Value) (ht0 : Tp w g v) (hh : w.heap.size ≤ h) (ht : Tp w1 g v) (hg : w.grownBy w1 (some g)) (ho : Own w1 B l qs) (hl : ∀ k, l.ownBlock = some k → k < h) :
    Tp (((((w1.setCell ⟨h, 2, none⟩ a).setCell ⟨h, 3, none⟩ b).setCell ⟨h, 4, none⟩ c).setCell ⟨h, 5, none⟩ d).setCell ⟨h, 6, none⟩ f) g v ∧ w.grownBy (((((w1.setCell ⟨h, 2, none⟩ a).setCell ⟨h, 3, none⟩ b).setCell ⟨h, 4, none⟩ c).setCell ⟨h, 5, none⟩ d).setCell ⟨h, 6, none⟩ f) (some g) ∧
    Own (((((w1.setCell ⟨h, 2, none⟩ a).setCell ⟨h, 3, none⟩ b).setCell ⟨h, 4, none⟩ c).setCell ⟨h, 5, none⟩ d).setCell ⟨h, 6, none⟩ f) B l qs := by
  have hk : w1.grownBy (((((w1.setCell ⟨h, 2, none⟩ a).setCell ⟨h, 3, none⟩ b).setCell ⟨h, 4, none⟩ c).setCell ⟨h, 5, none⟩ d).setCell ⟨h, 6, none⟩ f) (some h) := grownBy_set (grownBy_set (grownBy_set (grownBy_set (grownBy_set (World.grownBy.refl _ _) _ _) _ _) _ _) _ _) _ _
  exact ⟨ht0.young ht hk (fun k e => by simp at e; omega), grownBy_own hg hk (fun k e => by simp at e; omega), ho.kept hk (fun k e e2 => by simp at e; have := hl k e2; omega)⟩
theorem keys_step {w W6 w7 : World} {g B : Nat} {v l l' : Value} {qs : List Ky} {k : Ky} {o : Obj} (hB : w.heap.size = B) (ht0 : Tp w g v) (h6 : Tp W6 g v ∧ w.grownBy W6 (some g) ∧ Own W6 B l qs)
    (hown' : w7.ownsRow B 63 7 l' (qs.length + 1) (kls qs ++ kl k)) (hg' : (W6.alloc o).grownBy w7 l.ownBlock) : Tp w7 g v ∧ w.grownBy w7 (some g) ∧ Own w7 B l' (qs ++ [k]) := by
  have hl : ∀ j, l.ownBlock = some j → w.heap.size ≤ j := fun j hj => by rw [hB]; exact (World.ownsRow.lt h6.2.2 j hj).1
  exact ⟨ht0.young (tp_alloc h6.1 o) hg' hl, grownBy_own (grownBy_own h6.2.1 (World.grownBy_alloc W6 o none) (fun k hk => by cases hk)) hg' hl, Own.snoc hown'⟩

def Keyss (w : World) (g : Nat) (v : Value) (e : Ending) (w' : World) : Prop := ∃ (l : Value) (qs : List Ky) (A : Int), e = .returned l ∧ Kept qs A ∧ qs.length ≤ 3 ∧ Own w' w.heap.size l qs ∧ Tp w' g v ∧ w.grownBy w' (some g)

set_option maxHeartbeats 4000000 in
theorem t_keys (g : Nat) (v : Value) (w : World) (h : Tp w g v) :
    Calls Try.prog 18 #[.pointer (some ⟨g, 0, none⟩), .int .i64 (-5), .int .i64 9] w (Keyss w g v) := by
  obtain ⟨i0, hi, hz0, hz1, hz2⟩ := info_parts Try.infoKey
  obtain ⟨B, hB⟩ : ∃ B, w.heap.size = B := ⟨_, rfl⟩
  have hgB : g < B := by rw [← hB]; exact h.lt
  have HW := Lib.hid hB
  have HT := Lib.hid h
  clear h hB
  go_enter Try.func18, Try.ntmps18
  go_wp2_with fail
  refine (t_next g v _ _ (by omega) (by omega) HT.out).mono ?_
  rintro e w1 ⟨A, rfl, A0, A1, ht, hg⟩
  have H1 := Lib.hid ht
  have G1 := Lib.hid hg
  clear ht hg
  go_wp2_with fail
  refine (t_next g v _ _ (by omega) (by omega) H1.out).mono ?_
  rintro e w2 ⟨y, rfl, y0, y1, ht, hg⟩
  have H2 := Lib.hid ht
  have G2 := Lib.hid (grownBy_trans G1.out hg)
  clear ht hg H1 G1
  obtain ⟨m0, rfl⟩ := Int.eq_ofNat_of_zero_le y0
  go_wp2
  go_loopw [7, 8, 9, 10] (fun out at' n _ wr => ∃ (m : Nat) (A : Int) (qs : List Ky), n = .int .i64 m ∧ at' = .int .i64 A ∧ m + qs.length ≤ 3 ∧ Kept qs A ∧ Own wr B out qs ∧ Tp wr g v ∧ w.grownBy wr (some g)) (fun _ _ n _ _ => (intOf n).toNat)
  case atStart => exact ⟨m0, A, [], rfl, rfl, by simp; omega, Kept.nil A0 (by omega), Own.nil _ _, H2.out, G2.out⟩
  case round =>
    clear H2 G2 A0 A1 y0 y1
    obtain ⟨m, A, qs, rfl, rfl, hm, hk, hown, ht, hg⟩ := hrel
    have hsz : B ≤ wr.heap.size := by have := hg.size; have := HW.out; omega
    have A0 := hk.bot
    have A1 : A ≤ 100 := by have := hk.top; omega
    have HM := Lib.hid hm
    have HK := Lib.hid hk
    have HO := Lib.hid hown
    have H3 := Lib.hid ht
    have G3 := Lib.hid hg
    clear hm hk hown ht hg
    rcases (show m = 0 ∨ ∃ j : Nat, m = j + 1 from by cases m with | zero => exact Or.inl rfl | succ j => exact Or.inr ⟨j, rfl⟩) with rfl | ⟨m, rfl⟩
    rotate_left
    · go_wp2_with fail
      refine (t_number g v _ _ _ (by omega) (by omega) (by omega) H3.out).mono ?_
      rintro e w4 ⟨x, rfl, x0, x1, ht, hg⟩
      have H4 := Lib.hid (tp_alloc ht (.cells (kCells ⟨A, x, 0, 0, 0, 0, 0⟩) 63))
      have G4 := Lib.hid (grownBy_own (grownBy_trans G3.out hg) (World.grownBy_alloc w4 (.cells (kCells ⟨A, x, 0, 0, 0, 0, 0⟩) 63) none) (fun k hk => by cases hk))
      have O4 := Lib.hid (Own.alloc (HO.out.kept hg (fun k hk e => by simp at hk; have := (World.ownsRow.lt HO.out k e).1; omega)) (.cells (kCells ⟨A, x, 0, 0, 0, 0, 0⟩) 63))
      have K4 : Has (w4.alloc (.cells (kCells ⟨A, x, 0, 0, 0, 0, 0⟩) 63)) w4.heap.size (kCells ⟨A, x, 0, 0, 0, 0, 0⟩) 63 := has_new0
      have HK4 := Lib.hid K4
      have s4 : B ≤ w4.heap.size := by have := hg.size; omega
      have LT := Lib.hid (fun k (e : Value.ownBlock u7 = some k) => (show k < w4.heap.size by have := (World.ownsRow.lt HO.out k e).2; have := hg.size; omega))
      clear ht hg K4 H3 G3
      go_wp2_with fail
      refine (t_how g v _ H4.out).mono ?_
      rintro e w5 ⟨kh, a, b, c, d, rfl, ok, ht, hg⟩
      have K5 := has_grown HK4.out hg (by omega)
      have k0 := K5.cell 0 _ rfl
      have k1 := K5.cell 1 _ rfl
      have k2 := K5.cell 2 _ rfl
      have k3 := K5.cell 3 _ rfl
      have k4 := K5.cell 4 _ rfl
      have k5 := K5.cell 5 _ rfl
      have k6 := K5.cell 6 _ rfl
      have fz := has_fro K5
      have O5 := O4.out.kept hg (fun k hk e => by simp at hk; have := (World.ownsRow.lt O4.out k e).1; omega)
      have H6 := five_put (h := w4.heap.size) (.int .i64 kh) (.int .i64 a) (.int .i64 b) (.int .i64 c) (.int .i64 d) HT.out (by have := HW.out; omega) ht (grownBy_trans G4.out hg) O5 (fun k e => by have := LT.out k e; omega)
      have ok' : okK ⟨A, x, kh, a, b, c, d⟩ = true := okK_of A0 (by omega) (by omega) (by omega) ok
      have HOK := Lib.hid ok'
      have HH6 := Lib.hid H6
      clear ht hg O5 H6 ok' ok K5 HK4 O4 G4 H4 HO LT
      go_wp2_with (at_builtin; refine wpList_append_near _ rfl _ _ 26 rfl B 63 i0 (.agg #[.int .i64 0, .int .i64 0, .int .i64 0, .int .i64 0, .int .i64 0, .int .i64 0, .int .i64 0]) 7 56 Try.underlying26 hi hz0 hz1 hz2 rfl (by decide) _ _ _ rfl (HH6.out.2.2.alloc _) ⟨w5.heap.size, 0, none⟩ 1 1 (kl ⟨A, x, kh, a, b, c, d⟩) rfl rfl (seven_cells (by simp)) (ints_one_kl _) ?c3 ?c4 ?c5 ?_)
      case c3 => have := HM.out; unfold maxLen; omega
      case c4 => have := HM.out; omega
      case c5 => have := HH6.out.2.1.size; have := HW.out; simp at *; omega
      intro l' w7 hown' hg' _
      have H7 := Lib.hid (keys_step HW.out HT.out HH6.out hown' hg')
      clear hown' hg' HH6 k0 k1 k2 k3 k4 k5 k6 fz
      go_wp2_with fail
      refine (t_next g v _ _ (by omega) (by omega) H7.out.1).mono ?_
      rintro e w8 ⟨z, rfl, z0, z1, ht, hg⟩
      have O8 := Lib.hid (H7.out.2.2.kept hg (fun k hk e => by simp at hk; have := (World.ownsRow.lt H7.out.2.2 k e).1; omega))
      have G8 := Lib.hid (grownBy_trans H7.out.2.1 hg)
      have T8 := Lib.hid ht
      have Q8 := Lib.hid (HK.out.snoc (A' := A + 1 + z) HOK.out rfl (by omega) (by omega))
      have m3 : (m : Int) ≤ 3 := by have := HM.out; omega
      clear ht hg H7 HK HOK
      go_wp2
      go_roundw
      case rel => exact ⟨m, _, _, by go_num, rfl, by have := HM.out; simp; omega, Q8.out, O8.out, T8.out, G8.out⟩
      case measure => simp [intOf]
    · have R : Keyss w g v (.returned u7) wr := ⟨u7, qs, A, rfl, HK.out, by have := HM.out; omega, by rw [HW.out]; exact HO.out, H3.out, G3.out⟩
      have RH := Lib.hid R
      clear R HO HK H3 G3 HM
      go_wp2
      go_ret
      exact RH.out

end Go.Proofs.Ytglbfpjjnboeaaa
