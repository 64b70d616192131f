/- Contracts of mutoscopebook.Within and of mutoscopekeep's Tape (Next): for every tape; the tape alone turns. -/
import Derived.Test.YtibgilaeepmheaaApp
import Derived.Test.YtibgilaeepmheaaRI5
import Derived.Test.YtibgilaeepmheaaQt
import Derived.Deep.QuietTactic
import Derived.BigQuiet
namespace Go.Proofs.Ytibgilaeepmheaa
open Go.RowKit
open M

/-- A number from 0 to 2^30 out of any. -/
def wth (x : Int) : Int := if 0 ≤ x ∧ x ≤ 1073741824 then x else if x.tmod 1073741825 < 0 then x.tmod 1073741825 + 1073741825 else x.tmod 1073741825
theorem wth_bd (x : Int) : 0 ≤ wth x ∧ wth x ≤ 1073741824 := by
  have := tmod_bd x 1073741825 (by decide)
  unfold wth
  split
  · omega
  · split <;> omega
theorem b_within (x : Int) (w : World) :
    Calls Try.prog 20 #[.int .i64 x, .int .i64 0, .int .i64 1073741824] w fun e w' => e = .returned (.int .i64 (wth x)) ∧ w = w' := by
  by_cases h : 0 ≤ x ∧ x ≤ 1073741824
  · rw [show wth x = x from if_pos h]
    obtain ⟨h0, h1⟩ := h
    go_enter Try.func20, Try.ntmps20
    go_wp2
    go_ret
    exact ⟨rfl, rfl⟩
  · rw [show wth x = if x.tmod 1073741825 < 0 then x.tmod 1073741825 + 1073741825 else x.tmod 1073741825 from if_neg h]
    obtain ⟨T, hT, T0, T1⟩ : ∃ T, x.tmod 1073741825 = T ∧ -1073741825 < T ∧ T < 1073741825 := ⟨_, rfl, (tmod_bd _ _ (by decide)).1, (tmod_bd _ _ (by decide)).2⟩
    rw [hT]
    have h' : x < 0 ∨ 1073741824 < x := by omega
    clear h
    rcases h' with h | h
    · by_cases hn : T < 0
      · rw [if_pos hn]
        go_enter Try.func20, Try.ntmps20
        go_wp2
        go_ret
        exact ⟨ret_int (by omega), rfl⟩
      · rw [if_neg hn]
        go_enter Try.func20, Try.ntmps20
        go_wp2
        go_ret
        exact ⟨rfl, rfl⟩
    · have h0 : 0 ≤ x := by omega
      have hT2 : 0 ≤ T := by rw [← hT]; exact Int.tmod_nonneg _ h0
      have hT' : x % 1073741825 = T := by rw [← hT]; exact (Int.tmod_eq_emod_of_nonneg h0).symm
      rw [if_neg (by omega)]
      go_enter Try.func20, Try.ntmps20
      go_wp2
      go_ret
      exact ⟨rfl, rfl⟩

/-- A slice of numbers. -/
def Nums (w : World) (v : Value) : Prop := (∃ ao cap, v = .slice ao 0 cap) ∨ ∃ b o n cap, v = .slice (some ⟨b, o, none⟩) n cap ∧ 0 < n ∧ n ≤ 9223372036854775807 ∧ ∀ i, i < n → ∃ x, w.cell? ⟨b, o + i, none⟩ = some (.int .i64 x)
theorem grownBy_trans {a b c : World} {r : Option Nat} (h1 : a.grownBy b r) (h2 : b.grownBy c r) : a.grownBy c r :=
  ⟨h2.os.trans h1.os, h2.tape.trans h1.tape, h2.output.trans h1.output, Nat.le_trans h1.size h2.size, fun k hk hr => (h2.block k (Nat.lt_of_lt_of_le hk h1.size) hr).trans (h1.block k hk hr)⟩
theorem grownBy_drewN {a b : World} {r : Option Nat} (h : a.grownBy b r) (n : Nat) : a.grownBy (b.drewN n) r := ⟨h.os, h.tape, h.output, h.size, h.block⟩
theorem grownBy_set {a b : World} {g : Nat} (h : a.grownBy b (some g)) (j : Nat) (u : Value) : a.grownBy (b.setCell ⟨g, j, none⟩ u) (some g) :=
  grownBy_trans h ⟨rfl, rfl, rfl, by simp, fun k _ hk => heap_setCell_other b ⟨g, j, none⟩ k u (fun e => hk (by simp [e]))⟩
theorem grownBy_own {a b c : World} {r : Option Nat} {row : Option Nat} (h1 : a.grownBy b r) (h2 : b.grownBy c row) (hr : ∀ k, row = some k → a.heap.size ≤ k) : a.grownBy c r :=
  ⟨h2.os.trans h1.os, h2.tape.trans h1.tape, h2.output.trans h1.output, Nat.le_trans h1.size h2.size, fun k hk hkr => (h2.block k (Nat.lt_of_lt_of_le hk h1.size) (fun e => by have := hr k e.symm; omega)).trans (h1.block k hk hkr)⟩
theorem has_set {w : World} {g : Nat} {cs : Array Value} {t : TypeId} (h : Has w g cs t) (j : Nat) (u : Value) : Has (w.setCell ⟨g, j, none⟩ u) g (cs.setIfInBounds j u) t := heap_setCell_same w g j cs t u h
theorem has_fro {w : World} {g : Nat} {cs : Array Value} {t : TypeId} (h : Has w g cs t) (j : Nat) : w.frozen? ⟨g, j, none⟩ = false := frozen_of_row w g j cs t h

theorem rem_bd {y N : Int} (n0 : 0 < N) : 0 ≤ y % N ∧ y % N ≤ N - 1 := by
  have := Int.emod_nonneg y (show N ≠ 0 by omega)
  have := Int.emod_lt_of_pos y n0
  omega

end Go.Proofs.Ytibgilaeepmheaa
