/- Contracts of mutoscopekeep's Tape (ease, how): for every tape they give eases and ways that may be; the tape alone turns. -/
import Derived.Test.YtglbfpjjnboeaaaGreatT5
namespace Go.Proofs.YtglbfpjjnboeaaaGreat
open Go.RowKit
open M

abbrev four0 : Array Value := #[.int .i64 0, .int .i64 0, .int .i64 0, .int .i64 0]
def Eases (w : World) (g : Nat) (v : Value) (e : Ending) (w' : World) : Prop := ∃ a b c d : Int, e = .returned (.agg #[.int .i64 a, .int .i64 b, .int .i64 c, .int .i64 d]) ∧ okE a b c d = true ∧ Tp w' g v ∧ w.grownBy w' (some g)
def Hows (w : World) (g : Nat) (v : Value) (e : Ending) (w' : World) : Prop := ∃ k a b c d : Int, e = .returned (.tuple #[.int .i64 k, .agg #[.int .i64 a, .int .i64 b, .int .i64 c, .int .i64 d]]) ∧ okHow k a b c d = true ∧ Tp w' g v ∧ w.grownBy w' (some g)
/-- Four numbers put into a block of four that is younger than w. -/
theorem four_put {w w0 w1 : World} {g h : Nat} {v : Value} {cs : Array Value} (a b c d : Value) (ht0 : Tp w g v) (hh : w.heap.size ≤ h) (ht : Tp w1 g v) (hg : w.grownBy w1 (some g)) (_ : Has w1 h cs 36) (_ : w0 = w) :
    Tp ((((w1.setCell ⟨h, 0, none⟩ a).setCell ⟨h, 1, none⟩ b).setCell ⟨h, 2, none⟩ c).setCell ⟨h, 3, none⟩ d) g v ∧ w.grownBy ((((w1.setCell ⟨h, 0, none⟩ a).setCell ⟨h, 1, none⟩ b).setCell ⟨h, 2, none⟩ c).setCell ⟨h, 3, none⟩ d) (some g) := by
  have hk : w1.grownBy ((((w1.setCell ⟨h, 0, none⟩ a).setCell ⟨h, 1, none⟩ b).setCell ⟨h, 2, none⟩ c).setCell ⟨h, 3, none⟩ d) (some h) := grownBy_set (grownBy_set (grownBy_set (grownBy_set (World.grownBy.refl _ _) _ _) _ _) _ _) _ _
  exact ⟨ht0.young ht hk (fun k e => by simp at e; omega), grownBy_own hg hk (fun k e => by simp at e; omega)⟩
theorem tp_alloc {w : World} {g : Nat} {v : Value} (h : Tp w g v) (o : Obj) : Tp (w.alloc o) g v := h.blocks fun k hk => (MapKept.heap_alloc w o).2 k hk
theorem has_grown {w w' : World} {g h : Nat} {cs : Array Value} {t : TypeId} (hh : Has w h cs t) (hg : w.grownBy w' (some g)) (hne : h ≠ g) : Has w' h cs t := (hg.block h hh.lt (by simpa using hne)).trans hh

set_option maxHeartbeats 1000000 in
theorem t_ease (g : Nat) (v : Value) (w : World) (h : Tp w g v) :
    Calls Tryz.prog 52 #[.pointer (some ⟨g, 0, none⟩)] w (Eases w g v) := by
  have h0 : Tp (w.alloc (.cells four0 36)) g v := tp_alloc h _
  have g0 : w.grownBy (w.alloc (.cells four0 36)) (some g) := World.grownBy_alloc _ _ _
  have k0 : Has (w.alloc (.cells four0 36)) w.heap.size four0 36 := has_new0
  have hne : w.heap.size ≠ g := by have := h.lt; omega
  have HT := Lib.hid h
  have H0 := Lib.hid h0
  have G0 := Lib.hid g0
  have K0 := Lib.hid k0
  have HN := Lib.hid hne
  clear h h0 g0 k0 hne
  go_enter Tryz.func52, Tryz.ntmps52
  go_wp2_with fail
  refine (t_next g v _ _ (by omega) (by omega) H0.out).mono ?_
  rintro e w1 ⟨a, rfl, a0, a1, ht, hg⟩
  have H1 := Lib.hid ht
  have G1 := Lib.hid (grownBy_trans G0.out hg)
  have K1 := Lib.hid (has_grown K0.out hg HN.out)
  clear ht hg H0 G0 K0
  go_wp2_with fail
  refine (t_number g v _ _ _ (by omega) (by omega) (by omega) H1.out).mono ?_
  rintro e w2 ⟨b, rfl, b0, b1, ht, hg⟩
  have H2 := Lib.hid ht
  have G2 := Lib.hid (grownBy_trans G1.out hg)
  have K2 := Lib.hid (has_grown K1.out hg HN.out)
  clear ht hg H1 G1 K1
  go_wp2_with fail
  refine (t_next g v _ _ (by omega) (by omega) H2.out).mono ?_
  rintro e w3 ⟨c, rfl, c0, c1, ht, hg⟩
  have H3 := Lib.hid ht
  have G3 := Lib.hid (grownBy_trans G2.out hg)
  have K3 := Lib.hid (has_grown K2.out hg HN.out)
  clear ht hg H2 G2 K2
  go_wp2_with fail
  refine (t_number g v _ _ _ (by omega) (by omega) (by omega) H3.out).mono ?_
  rintro e w4 ⟨d, rfl, d0, d1, ht, hg⟩
  have K4 := has_grown K3.out hg HN.out
  have R := four_put (.int .i64 a) (.int .i64 b) (.int .i64 c) (.int .i64 d) HT.out (Nat.le_refl _) ht (grownBy_trans G3.out hg) K4 rfl
  have k0 := K4.cell 0 _ rfl
  have k1 := K4.cell 1 _ rfl
  have k2 := K4.cell 2 _ rfl
  have k3 := K4.cell 3 _ rfl
  have fz := has_fro K4
  have RH := Lib.hid R
  have OK : okE a b c d = true := by unfold okE okT okV; simp; omega
  have HOK := Lib.hid OK
  clear ht hg H3 G3 K3 K4 R HT OK
  go_wp2
  refine bodyPost_ret (v := .agg #[.int .i64 a, .int .i64 b, .int .i64 c, .int .i64 d]) (by simp [results, Tryz.results52, go_sem, k0, k1, k2, k3]) rfl ?_
  exact ⟨a, b, c, d, rfl, HOK.out, RH.out.1, RH.out.2⟩

set_option maxHeartbeats 1000000 in
theorem t_how (g : Nat) (v : Value) (w : World) (h : Tp w g v) :
    Calls Tryz.prog 22 #[.pointer (some ⟨g, 0, none⟩)] w (Hows w g v) := by
  have h0 : Tp (w.alloc (.cells four0 36)) g v := tp_alloc h _
  have g0 : w.grownBy (w.alloc (.cells four0 36)) (some g) := World.grownBy_alloc _ _ _
  have k0 : Has (w.alloc (.cells four0 36)) w.heap.size four0 36 := has_new0
  have hne : w.heap.size ≠ g := by have := h.lt; omega
  have HT := Lib.hid h
  have H0 := Lib.hid h0
  have G0 := Lib.hid g0
  have K0 := Lib.hid k0
  have HN := Lib.hid hne
  clear h h0 g0 k0 hne
  go_enter Tryz.func22, Tryz.ntmps22
  go_wp2_with fail
  refine (t_next g v _ _ (by omega) (by omega) H0.out).mono ?_
  rintro e w1 ⟨y, rfl, y0, y1, ht, hg⟩
  have K1 := has_grown K0.out hg HN.out
  have H1 := Lib.hid ht
  have G1 := Lib.hid (grownBy_trans G0.out hg)
  clear hg ht H0 G0 K0
  have k0 := K1.cell 0 _ rfl
  have k1 := K1.cell 1 _ rfl
  have k2 := K1.cell 2 _ rfl
  have k3 := K1.cell 3 _ rfl
  have fz := has_fro K1
  have R := Lib.hid (four_put (.int .i64 0) (.int .i64 0) (.int .i64 0) (.int .i64 0) HT.out (Nat.le_refl _) H1.out G1.out K1 rfl)
  have HK := Lib.hid K1
  clear K1
  rcases (show y = 0 ∨ y = 1 ∨ (¬ y = 0 ∧ ¬ y = 1) by omega) with rfl | rfl | ⟨e0, e1⟩
  · go_wp2
    refine bodyPost_ret (v := .tuple #[.int .i64 0, .agg #[.int .i64 0, .int .i64 0, .int .i64 0, .int .i64 0]]) (by simp [results, Tryz.results22, go_sem, k0, k1, k2, k3]) rfl ?_
    exact ⟨0, 0, 0, 0, 0, rfl, rfl, R.out.1, R.out.2⟩
  · clear R
    go_wp2_with fail
    refine (t_ease g v _ H1.out).mono ?_
    rintro e w2 ⟨a, b, c, d, rfl, ok, ht, hg⟩
    have K2 := has_grown HK.out hg HN.out
    have R := Lib.hid (four_put (.int .i64 a) (.int .i64 b) (.int .i64 c) (.int .i64 d) HT.out (Nat.le_refl _) ht (grownBy_trans G1.out hg) K2 rfl)
    clear k0 k1 k2 k3 fz
    have k0 := K2.cell 0 _ rfl
    have k1 := K2.cell 1 _ rfl
    have k2 := K2.cell 2 _ rfl
    have k3 := K2.cell 3 _ rfl
    have fz := has_fro K2
    have HOK := Lib.hid ok
    clear ok ht hg K2 HK H1 G1
    go_wp2
    refine bodyPost_ret (v := .tuple #[.int .i64 2, .agg #[.int .i64 a, .int .i64 b, .int .i64 c, .int .i64 d]]) (by simp [results, Tryz.results22, go_sem, k0, k1, k2, k3]) rfl ?_
    exact ⟨2, a, b, c, d, rfl, HOK.out, R.out.1, R.out.2⟩
  · go_wp2
    refine bodyPost_ret (v := .tuple #[.int .i64 1, .agg #[.int .i64 0, .int .i64 0, .int .i64 0, .int .i64 0]]) (by simp [results, Tryz.results22, go_sem, k0, k1, k2, k3]) rfl ?_
    exact ⟨1, 0, 0, 0, 0, rfl, rfl, R.out.1, R.out.2⟩


end Go.Proofs.YtglbfpjjnboeaaaGreat
