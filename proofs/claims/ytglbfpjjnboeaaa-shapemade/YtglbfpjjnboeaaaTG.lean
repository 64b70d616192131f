/- Contract of mutoscopekeep's Tape.Keys with any bounds: for every tape it gives keys of its own, three at most, that may be and rise, of numbers between the bounds; the tape alone turns. Of Tape.point with any bounds. -/
import Derived.Test.YtglbfpjjnboeaaaTY5
import Derived.Test.YtglbfpjjnboeaaaTP
namespace Go.Proofs.Ytglbfpjjnboeaaa
open Go.RowKit
open M

theorem okK_of2 {t v h a b c d : Int} (t0 : 0 ≤ t) (t1 : t ≤ 1000) (v0 : -60000000 ≤ v) (v1 : v ≤ 60000000) (ok : okHow h a b c d = true) : okK ⟨t, v, h, a, b, c, d⟩ = true := by
  unfold okK okIn
  simp only [ok]
  simp
  omega
/-- Keys that may be, all of them ahead of the tick A, none ahead of 0, of numbers between the bounds. -/
structure KeptG (lo hi : Int) (qs : List Ky) (A : Int) : Prop where
  kept : Kept qs A
  tick : ∀ i, i < qs.length → 0 ≤ (ky qs i).t
  num : ∀ i, i < qs.length → lo * 65536 ≤ (ky qs i).v ∧ (ky qs i).v ≤ hi * 65536 + 65535
  ahead : ∀ i, i < qs.length → (ky qs i).t < A
theorem KeptG.nil {lo hi A : Int} (h0 : 0 ≤ A) (h1 : A ≤ 5) : KeptG lo hi [] A := ⟨Kept.nil h0 h1, fun i hi => by simp at hi, fun i hi => by simp at hi, fun i hi => by simp at hi⟩
theorem KeptG.snoc {lo hi : Int} {qs : List Ky} {A : Int} (h : KeptG lo hi qs A) {k : Ky} {A' : Int} (hk : okK k = true) (ht : k.t = A) (hv : lo * 65536 ≤ k.v ∧ k.v ≤ hi * 65536 + 65535) (h1 : A + 1 ≤ A') (h2 : A' ≤ A + 8) : KeptG lo hi (qs ++ [k]) A' := by
  have a0 := h.kept.bot
  have each : ∀ (P : Ky → Prop), (∀ i, i < qs.length → P (ky qs i)) → P k → ∀ i, i < (qs ++ [k]).length → P (ky (qs ++ [k]) i) := by
    intro P h1 h2 i hi
    simp at hi
    by_cases e : i < qs.length
    · rw [ky_left e]; exact h1 i e
    · obtain rfl : i = qs.length := by omega
      rw [ky_last]; exact h2
  exact ⟨h.kept.snoc hk ht h1 h2, each (fun k => 0 ≤ k.t) h.tick (by omega), each (fun k => lo * 65536 ≤ k.v ∧ k.v ≤ hi * 65536 + 65535) h.num hv, each (fun k => k.t < A') (fun i hi => by have := h.ahead i hi; omega) (by omega)⟩

def KeyssG (lo hi : Int) (w : World) (g : Nat) (v : Value) (e : Ending) (w' : World) : Prop := ∃ (l : Value) (qs : List Ky) (A : Int), e = .returned l ∧ KeptG lo hi qs A ∧ qs.length ≤ 3 ∧ Own w' w.heap.size l qs ∧ Tp w' g v ∧ w.grownBy w' (some g)

set_option maxHeartbeats 4000000 in
theorem t_keysG (g : Nat) (v : Value) (lo up : Int) (w : World) (l0 : -100 ≤ lo) (l1 : lo ≤ up) (l2 : up ≤ 100) (h : Tp w g v) :
    Calls Try.prog 18 #[.pointer (some ⟨g, 0, none⟩), .int .i64 lo, .int .i64 up] w (KeyssG lo up w g v) := by
  obtain ⟨i0, hi, hz0, hz1, hz2⟩ := info_parts Try.infoKey
  obtain ⟨B, hB⟩ : ∃ B, w.heap.size = B := ⟨_, rfl⟩
  have hgB : g < B := by rw [← hB]; exact h.lt
  have HW := Lib.hid hB
  have HT := Lib.hid h
  clear h hB
  go_enter Try.func18, Try.ntmps18
  go_wp2_with fail
  refine (t_next g v _ _ (by omega) (by omega) HT.out).mono ?_
  rintro e w1 ⟨A, rfl, A0, A1, ht, hg⟩
  have H1 := Lib.hid ht
  have G1 := Lib.hid hg
  clear ht hg
  go_wp2_with fail
  refine (t_next g v _ _ (by omega) (by omega) H1.out).mono ?_
  rintro e w2 ⟨y, rfl, y0, y1, ht, hg⟩
  have H2 := Lib.hid ht
  have G2 := Lib.hid (grownBy_trans G1.out hg)
  clear ht hg H1 G1
  obtain ⟨m0, rfl⟩ := Int.eq_ofNat_of_zero_le y0
  go_wp2
  go_loopw [7, 8, 9, 10] (fun out at' n _ wr => ∃ (m : Nat) (A : Int) (qs : List Ky), n = .int .i64 m ∧ at' = .int .i64 A ∧ m + qs.length ≤ 3 ∧ KeptG lo up qs A ∧ Own wr B out qs ∧ Tp wr g v ∧ w.grownBy wr (some g)) (fun _ _ n _ _ => (intOf n).toNat)
  case atStart => exact ⟨m0, A, [], rfl, rfl, by simp; omega, KeptG.nil A0 (by omega), Own.nil _ _, H2.out, G2.out⟩
  case round =>
    clear H2 G2 A0 A1 y0 y1
    obtain ⟨m, A, qs, rfl, rfl, hm, hk, hown, ht, hg⟩ := hrel
    have hsz : B ≤ wr.heap.size := by have := hg.size; have := HW.out; omega
    have A0 := hk.kept.bot
    have A1 : A ≤ 100 := by have := hk.kept.top; omega
    have HM := Lib.hid hm
    have HK := Lib.hid hk
    have HO := Lib.hid hown
    have H3 := Lib.hid ht
    have G3 := Lib.hid hg
    clear hm hk hown ht hg
    rcases (show m = 0 ∨ ∃ j : Nat, m = j + 1 from by cases m with | zero => exact Or.inl rfl | succ j => exact Or.inr ⟨j, rfl⟩) with rfl | ⟨m, rfl⟩
    rotate_left
    · go_wp2_with fail
      refine (t_number g v _ _ _ (by omega) (by omega) (by omega) H3.out).mono ?_
      rintro e w4 ⟨x, rfl, x0, x1, ht, hg⟩
      have H4 := Lib.hid (tp_alloc ht (.cells (kCells ⟨A, x, 0, 0, 0, 0, 0⟩) 63))
      have G4 := Lib.hid (grownBy_own (grownBy_trans G3.out hg) (World.grownBy_alloc w4 (.cells (kCells ⟨A, x, 0, 0, 0, 0, 0⟩) 63) none) (fun k hk => by cases hk))
      have O4 := Lib.hid (Own.alloc (HO.out.kept hg (fun k hk e => by simp at hk; have := (World.ownsRow.lt HO.out k e).1; omega)) (.cells (kCells ⟨A, x, 0, 0, 0, 0, 0⟩) 63))
      have K4 : Has (w4.alloc (.cells (kCells ⟨A, x, 0, 0, 0, 0, 0⟩) 63)) w4.heap.size (kCells ⟨A, x, 0, 0, 0, 0, 0⟩) 63 := has_new0
      have HK4 := Lib.hid K4
      have s4 : B ≤ w4.heap.size := by have := hg.size; omega
      have LT := Lib.hid (fun k (e : Value.ownBlock u7 = some k) => (show k < w4.heap.size by have := (World.ownsRow.lt HO.out k e).2; have := hg.size; omega))
      clear ht hg K4 H3 G3
      go_wp2_with fail
      refine (t_how g v _ H4.out).mono ?_
      rintro e w5 ⟨kh, a, b, c, d, rfl, ok, ht, hg⟩
      have K5 := has_grown HK4.out hg (by omega)
      have k0 := K5.cell 0 _ rfl
      have k1 := K5.cell 1 _ rfl
      have k2 := K5.cell 2 _ rfl
      have k3 := K5.cell 3 _ rfl
      have k4 := K5.cell 4 _ rfl
      have k5 := K5.cell 5 _ rfl
      have k6 := K5.cell 6 _ rfl
      have fz := has_fro K5
      have O5 := O4.out.kept hg (fun k hk e => by simp at hk; have := (World.ownsRow.lt O4.out k e).1; omega)
      have H6 := five_put (h := w4.heap.size) (.int .i64 kh) (.int .i64 a) (.int .i64 b) (.int .i64 c) (.int .i64 d) HT.out (by have := HW.out; omega) ht (grownBy_trans G4.out hg) O5 (fun k e => by have := LT.out k e; omega)
      have XB : Hid (lo * 65536 ≤ x ∧ x ≤ up * 65536 + 65535) := Lib.hid ⟨by omega, by omega⟩
      have ok' : okK ⟨A, x, kh, a, b, c, d⟩ = true := okK_of2 A0 (by omega) (by omega) (by omega) ok
      have HOK := Lib.hid ok'
      have HH6 := Lib.hid H6
      clear ht hg O5 H6 ok' ok K5 HK4 O4 G4 H4 HO LT
      go_wp2_with (at_builtin; refine wpList_append_near _ rfl _ _ 26 rfl B 63 i0 (.agg #[.int .i64 0, .int .i64 0, .int .i64 0, .int .i64 0, .int .i64 0, .int .i64 0, .int .i64 0]) 7 56 Try.underlying26 hi hz0 hz1 hz2 rfl (by decide) _ _ _ rfl (HH6.out.2.2.alloc _) ⟨w5.heap.size, 0, none⟩ 1 1 (kl ⟨A, x, kh, a, b, c, d⟩) rfl rfl (seven_cells (by simp)) (ints_one_kl _) ?c3 ?c4 ?c5 ?_)
      case c3 => have := HM.out; unfold maxLen; omega
      case c4 => have := HM.out; omega
      case c5 => have := HH6.out.2.1.size; have := HW.out; simp at *; omega
      intro l' w7 hown' hg' _
      have H7 := Lib.hid (keys_step HW.out HT.out HH6.out hown' hg')
      clear hown' hg' HH6 k0 k1 k2 k3 k4 k5 k6 fz
      go_wp2_with fail
      refine (t_next g v _ _ (by omega) (by omega) H7.out.1).mono ?_
      rintro e w8 ⟨z, rfl, z0, z1, ht, hg⟩
      have O8 := Lib.hid (H7.out.2.2.kept hg (fun k hk e => by simp at hk; have := (World.ownsRow.lt H7.out.2.2 k e).1; omega))
      have G8 := Lib.hid (grownBy_trans H7.out.2.1 hg)
      have T8 := Lib.hid ht
      have Q8 := Lib.hid (HK.out.snoc (A' := A + 1 + z) HOK.out rfl XB.out (by omega) (by omega))
      have m3 : (m : Int) ≤ 3 := by have := HM.out; omega
      clear ht hg H7 HK HOK
      go_wp2
      go_roundw
      case rel => exact ⟨m, _, _, by go_num, rfl, by have := HM.out; simp; omega, Q8.out, O8.out, T8.out, G8.out⟩
      case measure => simp [intOf]
    · have R : KeyssG lo up w g v (.returned u7) wr := ⟨u7, qs, A, rfl, HK.out, by have := HM.out; omega, by rw [HW.out]; exact HO.out, H3.out, G3.out⟩
      have RH := Lib.hid R
      clear R HO HK H3 G3 HM
      go_wp2
      go_ret
      exact RH.out

def PtsG (lo hi : Int) (w : World) (g : Nat) (v : Value) (e : Ending) (w' : World) : Prop := ∃ x y : Int, e = .returned (.agg #[.int .i64 x, .int .i64 y]) ∧ (lo * 65536 ≤ x ∧ x ≤ hi * 65536 + 65535 ∧ lo * 65536 ≤ y ∧ y ≤ hi * 65536 + 65535) ∧ Tp w' g v ∧ w.grownBy w' (some g)
set_option maxHeartbeats 1000000 in
theorem t_pointG (g : Nat) (v : Value) (lo hi : Int) (w : World) (l0 : -100 ≤ lo) (l1 : lo ≤ hi) (l2 : hi ≤ 100) (h : Tp w g v) :
    Calls Try.prog 36 #[.pointer (some ⟨g, 0, none⟩), .int .i64 lo, .int .i64 hi] w (PtsG lo hi w g v) := by
  have h0 : Tp (w.alloc (.cells #[.int .i64 0, .int .i64 0] 31)) g v := tp_alloc h _
  have g0 : w.grownBy (w.alloc (.cells #[.int .i64 0, .int .i64 0] 31)) (some g) := World.grownBy_alloc _ _ _
  have k0 : Has (w.alloc (.cells #[.int .i64 0, .int .i64 0] 31)) w.heap.size #[.int .i64 0, .int .i64 0] 31 := has_new0
  have hne : w.heap.size ≠ g := by have := h.lt; omega
  have HT := Lib.hid h
  have H0 := Lib.hid h0
  have G0 := Lib.hid g0
  have K0 := Lib.hid k0
  have HN := Lib.hid hne
  clear h h0 g0 k0 hne
  go_enter Try.func36, Try.ntmps36
  go_wp2_with fail
  refine (t_number g v _ _ _ (by omega) (by omega) (by omega) H0.out).mono ?_
  rintro e w1 ⟨x, rfl, x0, x1, ht, hg⟩
  have H1 := Lib.hid ht
  have G1 := Lib.hid (grownBy_trans G0.out hg)
  have K1 := Lib.hid (has_grown K0.out hg HN.out)
  clear ht hg H0 G0 K0
  go_wp2_with fail
  refine (t_number g v _ _ _ (by omega) (by omega) (by omega) H1.out).mono ?_
  rintro e w2 ⟨y, rfl, y0, y1, ht, hg⟩
  have K2 := has_grown K1.out hg HN.out
  have R := two_put (h := w.heap.size) (.int .i64 x) (.int .i64 y) HT.out (Nat.le_refl _) ht (grownBy_trans G1.out hg)
  have k0 := K2.cell 0 _ rfl
  have k1 := K2.cell 1 _ rfl
  have fz := has_fro K2
  have RH := Lib.hid R
  clear ht hg H1 G1 K1 K2 R HT
  go_wp2
  refine bodyPost_ret (v := .agg #[.int .i64 x, .int .i64 y]) (by simp [results, Try.results36, go_sem, k0, k1]) rfl ?_
  exact ⟨x, y, rfl, ⟨by omega, by omega, by omega, by omega⟩, RH.out.1, RH.out.2⟩

end Go.Proofs.Ytglbfpjjnboeaaa
