/- Contracts of q.divDown and q.Div: for all numbers 65536 times the first by the second, rounded down and held, 0 where the second is 0; nothing in memory turns (the order that Go leaves open is drawn). -/
import Derived.Test.YtafaafaclijfiaaC
import Derived.Deep.Draws
import Derived.Lib.Hide
namespace Go.Proofs.Ytafaafaclijfiaa
open Go.RowKit
open M

def Drawn (v : Value) (w : World) (e : Ending) (w' : World) : Prop := e = .returned v ∧ ∃ n : Nat, w' = w.drewN n
theorem Drawn.same {v : Value} {w : World} : Drawn v w (.returned v) w := ⟨rfl, 0, rfl⟩

theorem dd_wrap {a b : Int} (a1 : -72057594037927936 ≤ a) (a2 : a ≤ 72057594037927936) : wrap64 (a.tdiv b) = a.tdiv b ∧ wrap64 (a.tdiv b - 1) = a.tdiv b - 1 := by
  have := tdiv_le a b
  unfold wrap64; omega
theorem q_divDown (a b : Int) (w : World) (a1 : -72057594037927936 ≤ a) (a2 : a ≤ 72057594037927936) (hb : ¬ b = 0) :
    Calls Try.prog 60 #[.int .i64 a, .int .i64 b] w fun e w' => e = .returned (.int .i64 (flo a b)) ∧ w.drew = w' := by
  have HW := Lib.hid (dd_wrap (b := b) a1 a2)
  go_enter Try.func60, Try.ntmps60
  go_wp2
  go_region
  go_wp2
  · go_ret
    exact ⟨ret_int (by rw [HW.out.1, flo_stay hb (Or.inl (by assumption))]), rfl⟩
  · rename_i h0 h1
    go_ret
    refine ⟨ret_int ?_, rfl⟩
    rw [HW.out.1, HW.out.2, flo_less hb h0]
    have h2 := h1.2
    intro hi
    simp [hi] at h2
  · rename_i h0 h1
    go_ret
    refine ⟨ret_int ?_, rfl⟩
    rw [HW.out.1, flo_stay hb (Or.inr ?_)]
    rcases h1 with h1 | h1
    · exact absurd (by simpa using h1) h0
    · simpa using h1

theorem q_div (a b : Int) (w : World) :
    Calls Try.prog 45 #[.int .i64 a, .int .i64 b] w (Drawn (.int .i64 (dv a b)) w) := by
  have a1 := hold_lo a; have a2 := hold_hi a; have b1 := hold_lo b; have b2 := hold_hi b
  by_cases hb : hold b = 0
  · have e : dv a b = 0 := if_pos hb
    rw [e]; clear e
    go_enter Try.func45, Try.ntmps45
    go_wp2_with (go_at_call 53; refine (q_hold _ _).mono ?_; rintro e w' ⟨rfl, rfl⟩)
    go_ret
    exact Drawn.same
  · have e : dv a b = hold (flo (hold a * 65536) (hold b)) := if_neg hb
    rw [e]; clear e
    go_enter Try.func45, Try.ntmps45
    go_wp2_with (first | (go_at_call 53; refine (q_hold _ _).mono ?_; rintro e w' ⟨rfl, rfl⟩) | (go_at_call 60; refine (q_divDown _ _ _ (by omega) (by omega) hb).mono ?_; rintro e w' ⟨rfl, rfl⟩))
    go_ret
    exact ⟨rfl, 1, rfl⟩

end Go.Proofs.Ytafaafaclijfiaa
