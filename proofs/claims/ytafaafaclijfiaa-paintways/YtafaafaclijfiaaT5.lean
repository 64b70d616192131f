/- Contracts of mutoscopebook.Within and of mutoscopekeep's Tape (Next): for every tape; the tape alone turns. -/
import Derived.Test.YtafaafaclijfiaaApp
import Derived.Test.YtafaafaclijfiaaRI5
import Derived.Test.YtafaafaclijfiaaQt
import Derived.Deep.QuietTactic
import Derived.BigQuiet
namespace Go.Proofs.Ytafaafaclijfiaa
open Go.RowKit
open M

/-- A number from 0 to 2^30 out of any. -/
def wth (x : Int) : Int := if 0 ≤ x ∧ x ≤ 1073741824 then x else if x.tmod 1073741825 < 0 then x.tmod 1073741825 + 1073741825 else x.tmod 1073741825
theorem wth_bd (x : Int) : 0 ≤ wth x ∧ wth x ≤ 1073741824 := by
  have := tmod_bd x 1073741825 (by decide)
  unfold wth
  split
  · omega
  · split <;> omega
theorem b_within (x : Int) (w : World) :
    Calls Try.prog 42 #[.int .i64 x, .int .i64 0, .int .i64 1073741824] w fun e w' => e = .returned (.int .i64 (wth x)) ∧ w = w' := by
  by_cases h : 0 ≤ x ∧ x ≤ 1073741824
  · rw [show wth x = x from if_pos h]
    obtain ⟨h0, h1⟩ := h
    go_enter Try.func42, Try.ntmps42
    go_wp2
    go_ret
    exact ⟨rfl, rfl⟩
  · rw [show wth x = if x.tmod 1073741825 < 0 then x.tmod 1073741825 + 1073741825 else x.tmod 1073741825 from if_neg h]
    obtain ⟨T, hT, T0, T1⟩ : ∃ T, x.tmod 1073741825 = T ∧ -1073741825 < T ∧ T < 1073741825 := ⟨_, rfl, (tmod_bd _ _ (by decide)).1, (tmod_bd _ _ (by decide)).2⟩
    rw [hT]
    have h' : x < 0 ∨ 1073741824 < x := by omega
    clear h
    rcases h' with h | h
    · by_cases hn : T < 0
      · rw [if_pos hn]
        go_enter Try.func42, Try.ntmps42
        go_wp2
        go_ret
        exact ⟨ret_int (by omega), rfl⟩
      · rw [if_neg hn]
        go_enter Try.func42, Try.ntmps42
        go_wp2
        go_ret
        exact ⟨rfl, rfl⟩
    · have h0 : 0 ≤ x := by omega
      have hT2 : 0 ≤ T := by rw [← hT]; exact Int.tmod_nonneg _ h0
      have hT' : x % 1073741825 = T := by rw [← hT]; exact (Int.tmod_eq_emod_of_nonneg h0).symm
      rw [if_neg (by omega)]
      go_enter Try.func42, Try.ntmps42
      go_wp2
      go_ret
      exact ⟨rfl, rfl⟩

/-- A slice of numbers. -/
def Nums (w : World) (v : Value) : Prop := (∃ ao cap, v = .slice ao 0 cap) ∨ ∃ b o n cap, v = .slice (some ⟨b, o, none⟩) n cap ∧ 0 < n ∧ n ≤ 9223372036854775807 ∧ ∀ i, i < n → ∃ x, w.cell? ⟨b, o + i, none⟩ = some (.int .i64 x)
/-- Block g holds a tape over v, a slice of numbers in another block. -/
def Tp (w : World) (g : Nat) (v : Value) : Prop := (∃ ao cap, v = .slice ao 0 cap ∧ Has w g #[v, .int .i64 0] 44) ∨
  ∃ b o n cap at', v = .slice (some ⟨b, o, none⟩) n cap ∧ 0 < n ∧ b ≠ g ∧ n ≤ 9223372036854775807 ∧ at' ≤ n ∧ Has w g #[v, .int .i64 (at' : Nat)] 44 ∧ ∀ i, i < n → ∃ x, w.cell? ⟨b, o + i, none⟩ = some (.int .i64 x)
theorem Tp.lt {w : World} {g : Nat} {v : Value} (h : Tp w g v) : g < w.heap.size := by
  rcases h with ⟨_, _, _, h⟩ | ⟨_, _, _, _, _, _, _, _, _, _, h, _⟩ <;> exact h.lt
theorem Tp.blocks {w w' : World} {g : Nat} {v : Value} (h : Tp w g v) (hb : ∀ k, k < w.heap.size → w'.heap[k]? = w.heap[k]?) : Tp w' g v := by
  rcases h with ⟨ao, cap, hv, h⟩ | ⟨b, o, n, cap, at', hv, hp, hne, hn, ha, h, hc⟩
  · exact Or.inl ⟨ao, cap, hv, (hb g h.lt).trans h⟩
  · refine Or.inr ⟨b, o, n, cap, at', hv, hp, hne, hn, ha, (hb g h.lt).trans h, fun i hi => ?_⟩
    obtain ⟨x, hx⟩ := hc i hi
    exact ⟨x, (World.cell?_of_block (hb b (World.block_lt_of_cell? w _ hx))).trans hx⟩
theorem Tp.grown {w w' : World} {g : Nat} {v : Value} {row : Option Nat} (h : Tp w g v) (hg : w.grownBy w' row) (hr : ∀ k, row = some k → k ≠ g ∧ (∀ b o n cap, v = .slice (some ⟨b, o, none⟩) n cap → 0 < n → k ≠ b)) : Tp w' g v := by
  rcases h with ⟨ao, cap, hv, h⟩ | ⟨b, o, n, cap, at', hv, hp, hne, hn, ha, h, hc⟩
  · exact Or.inl ⟨ao, cap, hv, (hg.block g h.lt (fun e => (hr g e.symm).1 rfl)).trans h⟩
  · refine Or.inr ⟨b, o, n, cap, at', hv, hp, hne, hn, ha, (hg.block g h.lt (fun e => (hr g e.symm).1 rfl)).trans h, fun i hi => ?_⟩
    obtain ⟨x, hx⟩ := hc i hi
    exact ⟨x, hg.cell hx (fun e => (hr b e.symm).2 _ _ _ _ hv hp rfl)⟩
theorem Tp.src {w : World} {g b o n cap : Nat} {v : Value} (h : Tp w g v) (hv : v = .slice (some ⟨b, o, none⟩) n cap) (h0 : 0 < n) : b < w.heap.size := by
  rcases h with ⟨ao, cap', hv', h⟩ | ⟨b', o', n', cap', at', hv', hp, hne, hn, ha, h, hc⟩
  · rw [hv] at hv'
    simp at hv'
    omega
  · rw [hv] at hv'
    simp at hv'
    obtain ⟨⟨rfl, rfl⟩, rfl, rfl⟩ := hv'
    obtain ⟨x, hx⟩ := hc 0 hp
    exact World.block_lt_of_cell? w _ hx
/-- What writes to blocks that are younger than w leaves a tape of w's. -/
theorem Tp.young {w w1 w2 : World} {g : Nat} {v : Value} {row : Option Nat} (h : Tp w g v) (h1 : Tp w1 g v) (hg : w1.grownBy w2 row) (hr : ∀ k, row = some k → w.heap.size ≤ k) : Tp w2 g v :=
  h1.grown hg fun k hk => ⟨fun e => by have := hr k hk; have := h.lt; omega, fun b o n cap hv h0 e => by have := hr k hk; have := h.src hv h0; omega⟩
theorem grownBy_trans {a b c : World} {r : Option Nat} (h1 : a.grownBy b r) (h2 : b.grownBy c r) : a.grownBy c r :=
  ⟨h2.os.trans h1.os, h2.tape.trans h1.tape, h2.output.trans h1.output, Nat.le_trans h1.size h2.size, fun k hk hr => (h2.block k (Nat.lt_of_lt_of_le hk h1.size) hr).trans (h1.block k hk hr)⟩
theorem grownBy_drewN {a b : World} {r : Option Nat} (h : a.grownBy b r) (n : Nat) : a.grownBy (b.drewN n) r := ⟨h.os, h.tape, h.output, h.size, h.block⟩
theorem grownBy_set {a b : World} {g : Nat} (h : a.grownBy b (some g)) (j : Nat) (u : Value) : a.grownBy (b.setCell ⟨g, j, none⟩ u) (some g) :=
  grownBy_trans h ⟨rfl, rfl, rfl, by simp, fun k _ hk => heap_setCell_other b ⟨g, j, none⟩ k u (fun e => hk (by simp [e]))⟩
theorem grownBy_own {a b c : World} {r : Option Nat} {row : Option Nat} (h1 : a.grownBy b r) (h2 : b.grownBy c row) (hr : ∀ k, row = some k → a.heap.size ≤ k) : a.grownBy c r :=
  ⟨h2.os.trans h1.os, h2.tape.trans h1.tape, h2.output.trans h1.output, Nat.le_trans h1.size h2.size, fun k hk hkr => (h2.block k (Nat.lt_of_lt_of_le hk h1.size) (fun e => by have := hr k e.symm; omega)).trans (h1.block k hk hkr)⟩
theorem has_set {w : World} {g : Nat} {cs : Array Value} {t : TypeId} (h : Has w g cs t) (j : Nat) (u : Value) : Has (w.setCell ⟨g, j, none⟩ u) g (cs.setIfInBounds j u) t := heap_setCell_same w g j cs t u h
theorem has_fro {w : World} {g : Nat} {cs : Array Value} {t : TypeId} (h : Has w g cs t) (j : Nat) : w.frozen? ⟨g, j, none⟩ = false := frozen_of_row w g j cs t h

def Nexts (w : World) (g : Nat) (v : Value) (lo hi : Int) (e : Ending) (w' : World) : Prop := ∃ x : Int, e = .returned (.int .i64 x) ∧ lo ≤ x ∧ x ≤ hi ∧ Tp w' g v ∧ w.grownBy w' (some g)
theorem rem_bd {y N : Int} (n0 : 0 < N) : 0 ≤ y % N ∧ y % N ≤ N - 1 := by
  have := Int.emod_nonneg y (show N ≠ 0 by omega)
  have := Int.emod_lt_of_pos y n0
  omega

set_option maxHeartbeats 1000000 in
theorem t_next (g : Nat) (v : Value) (N : Int) (w : World) (n0 : 0 < N) (n1 : N ≤ 1000000) (h : Tp w g v) :
    Calls Try.prog 18 #[.pointer (some ⟨g, 0, none⟩), .int .i64 N] w (Nexts w g v 0 (N - 1)) := by
  have HT := Lib.hid h
  rcases h with ⟨ao, cap, rfl, h⟩ | ⟨b, o, n, cap, a, rfl, hp, hne, hn, ha, h, hc⟩
  · have c0 := h.cell 0 _ rfl
    have c1 := h.cell 1 _ rfl
    clear h
    have R : ∀ k, Nexts w g (.slice ao 0 cap) 0 (N - 1) (.returned (.int .i64 0)) (w.drewN k) := fun k => ⟨0, rfl, by omega, by omega, HT.out.blocks (fun _ _ => rfl), grownBy_drewN (World.grownBy.refl _ _) k⟩
    have HR := Lib.hid R
    clear R HT
    go_enter Try.func18, Try.ntmps18
    go_wp2_with fail
    go_quiet (fail)
    go_wp2
    go_ret
    exact HR.out _
  · have c0 := h.cell 0 _ rfl
    have c1 := h.cell 1 _ rfl
    by_cases hlt : a < n
    · obtain ⟨x, hx⟩ := hc a hlt
      have fz := has_fro h 1
      have hb : b ≠ g := hne
      obtain ⟨y, hy⟩ : ∃ y, wth x = y := ⟨_, rfl⟩
      have y0 : 0 ≤ y := by rw [← hy]; exact (wth_bd x).1
      have y1 : y ≤ 1073741824 := by rw [← hy]; exact (wth_bd x).2
      obtain ⟨r, hr, r0, r1⟩ : ∃ r, y % N = r ∧ 0 ≤ r ∧ r ≤ N - 1 := ⟨_, rfl, (rem_bd n0).1, (rem_bd n0).2⟩
      obtain ⟨W, hW⟩ : ∃ W, w.setCell ⟨g, 1, none⟩ (.int .i64 ((a : Int) + 1)) = W := ⟨_, rfl⟩
      have h1 : Has W g #[.slice (some ⟨b, o, none⟩) n cap, .int .i64 ((a + 1 : Nat) : Int)] 44 := by rw [← hW]; exact has_set h 1 _
      have hg1 : w.grownBy W (some g) := by rw [← hW]; exact grownBy_set (World.grownBy.refl _ _) _ _
      have hc1 : ∀ i, i < n → ∃ x, W.cell? ⟨b, o + i, none⟩ = some (.int .i64 x) := fun i hi => by
        obtain ⟨x, hx⟩ := hc i hi
        exact ⟨x, hg1.cell hx (by simpa using hne)⟩
      have R : ∀ j k, Nexts w g (.slice (some ⟨b, o, none⟩) n cap) 0 (N - 1) (.returned (.int .i64 r)) ((W.drewN j).drewN k) := fun j k => ⟨r, rfl, r0, r1, Or.inr ⟨b, o, n, cap, a + 1, rfl, hp, hne, hn, by omega, h1, hc1⟩, grownBy_drewN (grownBy_drewN hg1 j) k⟩
      have d0 := h1.cell 0 _ rfl
      have d1 := h1.cell 1 _ rfl
      have dx : W.cell? ⟨b, o + a, none⟩ = some (.int .i64 x) := hg1.cell hx (by simpa using hne)
      have HR := Lib.hid R
      have m1 := fun w => b_within x w
      rw [hy] at m1
      have M1 := Lib.hid m1
      have o1 : (a : Int) < n := by omega
      have e1 : ((a + 1 : Nat) : Int) - 1 = (a : Int) := by omega
      have e2 : ((a + 1 : Nat) : Int) = (a : Int) + 1 := by omega
      rw [e2] at d1 e1
      have ew : IntKind.i64.wrap (a : Int) = (a : Int) := IntWalk.i64_in _ (by omega)
      have HW := Lib.hid hW
      clear R HT hc h h1 hg1 hc1 hy e2 hW m1
      go_enter Try.func18, Try.ntmps18
      go_wp2_with fail
      go_quiet (fail)
      go_wp2_with fail
      rw [setCell_drewN, HW.out]
      obtain ⟨V, hV⟩ : ∃ V, W.drewN nq = V := ⟨_, rfl⟩
      have f0 : V.cell? ⟨g, 0, none⟩ = some (.slice (some ⟨b, o, none⟩) n cap) := by rw [← hV]; exact d0
      have f1 : V.cell? ⟨g, 1, none⟩ = some (.int .i64 ((a : Int) + 1)) := by rw [← hV]; exact d1
      have fx : V.cell? ⟨b, o + a, none⟩ = some (.int .i64 x) := by rw [← hV]; exact dx
      have RV := Lib.hid (HR.out nq)
      rw [hV] at RV ⊢
      clear HR d0 d1 dx c0 c1 hx fz hV HW
      go_quiet (first | (go_at_call 42; exact quiet1 (M1.out _)))
      go_wp2
      go_ret
      exact (show Nexts _ _ _ _ _ (.returned (.int .i64 (y % N))) _ by rw [hr]; exact RV.out _)
    · have R : ∀ k, Nexts w g (.slice (some ⟨b, o, none⟩) n cap) 0 (N - 1) (.returned (.int .i64 0)) (w.drewN k) := fun k => ⟨0, rfl, by omega, by omega, HT.out.blocks (fun _ _ => rfl), grownBy_drewN (World.grownBy.refl _ _) k⟩
      have HR := Lib.hid R
      have o1 : (n : Int) ≤ a := by omega
      clear R HT hc h
      go_enter Try.func18, Try.ntmps18
      go_wp2_with fail
      go_quiet (fail)
      go_wp2
      go_ret
      exact HR.out _

set_option maxHeartbeats 1000000 in
theorem t_number (g : Nat) (v : Value) (lo hi : Int) (w : World) (l0 : -1000 ≤ lo) (l1 : lo ≤ hi) (l2 : hi ≤ 1000) (h : Tp w g v) :
    Calls Try.prog 19 #[.pointer (some ⟨g, 0, none⟩), .int .i64 lo, .int .i64 hi] w (Nexts w g v (lo * 65536) (hi * 65536 + 65535)) := by
  have HT := Lib.hid h
  clear h
  go_enter Try.func19, Try.ntmps19
  go_wp2_with fail
  refine (t_next g v _ _ (by omega) (by omega) HT.out).mono ?_
  rintro e w1 ⟨x, rfl, x0, x1, ht1, hg1⟩
  have HT1 := Lib.hid ht1
  have HG1 := Lib.hid hg1
  clear ht1 hg1 HT
  go_wp2_with fail
  refine (t_next g v _ _ (by omega) (by omega) HT1.out).mono ?_
  rintro e w2 ⟨y, rfl, y0, y1, ht2, hg2⟩
  have HT2 := Lib.hid ht2
  have HG2 := Lib.hid (grownBy_trans HG1.out hg2)
  clear ht2 hg2 HT1 HG1
  rcases (show y = 0 ∨ y = 1 ∨ (¬ y = 0 ∧ ¬ y = 1) by omega) with rfl | rfl | ⟨e0, e1⟩
  · go_wp2
    go_ret
    exact ⟨_, rfl, by omega, by omega, HT2.out, HG2.out⟩
  · go_wp2_with fail
    refine (t_next g v _ _ (by omega) (by omega) HT2.out).mono ?_
    rintro e w3 ⟨z, rfl, z0, z1, ht3, hg3⟩
    have HT3 := Lib.hid ht3
    have HG3 := Lib.hid (grownBy_trans HG2.out hg3)
    clear ht3 hg3 HT2 HG2
    go_wp2
    go_ret
    exact ⟨_, rfl, by omega, by omega, HT3.out, HG3.out⟩
  · go_wp2
    go_ret
    exact ⟨_, rfl, by omega, by omega, HT2.out, HG2.out⟩

end Go.Proofs.Ytafaafaclijfiaa
