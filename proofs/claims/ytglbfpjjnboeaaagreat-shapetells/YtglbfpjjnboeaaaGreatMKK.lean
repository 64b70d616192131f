/- What make lays for a list of keys: keys of zeros. -/
import Derived.Test.YtglbfpjjnboeaaaGreatKE5
namespace Go.Proofs.YtglbfpjjnboeaaaGreat
open Go Go.RowKit
open M

theorem made_keys (n : Nat) : (madeCells #[.int .i64 0, .int .i64 0, .int .i64 0, .int .i64 0, .int .i64 0, .int .i64 0, .int .i64 0] (n * 7)).toList = kls (List.replicate n default) := by
  apply List.ext_getElem?
  intro j
  by_cases h : j < n * 7
  · have e1 : j = j / 7 * 7 + j % 7 := by omega
    have h7 : j % 7 < 7 := by omega
    have e2 : ky (List.replicate n default) (j / 7) = default := by
      unfold ky
      rw [List.getD_eq_getElem?_getD, List.getElem?_replicate]
      split <;> rfl
    have e3 : (kls (List.replicate n default))[j]? = some (.int .i64 0) := by
      rw [e1, kls_at (by simp; omega) h7, e2]
      rcases (show j % 7 = 0 ∨ j % 7 = 1 ∨ j % 7 = 2 ∨ j % 7 = 3 ∨ j % 7 = 4 ∨ j % 7 = 5 ∨ j % 7 = 6 by omega) with e | e | e | e | e | e | e <;> rw [e] <;> rfl
    rw [e3]
    have e4 : (#[.int .i64 0, .int .i64 0, .int .i64 0, .int .i64 0, .int .i64 0, .int .i64 0, .int .i64 0] : Array Value)[j % 7]! = .int .i64 0 := by
      rcases (show j % 7 = 0 ∨ j % 7 = 1 ∨ j % 7 = 2 ∨ j % 7 = 3 ∨ j % 7 = 4 ∨ j % 7 = 5 ∨ j % 7 = 6 by omega) with e | e | e | e | e | e | e <;> rw [e] <;> rfl
    have e5 : (madeCells #[.int .i64 0, .int .i64 0, .int .i64 0, .int .i64 0, .int .i64 0, .int .i64 0, .int .i64 0] (n * 7))[j]? = some (.int .i64 0) := by
      unfold madeCells
      rw [Array.getElem?_map, Array.getElem?_eq_getElem (by simpa using h)]
      simp only [Array.getElem_range, Option.map_some]
      exact congrArg some e4
    simpa using e5
  · rw [List.getElem?_eq_none (by simp [size_madeCells]; omega), List.getElem?_eq_none (by rw [kls_length]; simp; omega)]

/-- What make lays. -/
def zek (n : Nat) : Array Value := madeCells #[.int .i64 0, .int .i64 0, .int .i64 0, .int .i64 0, .int .i64 0, .int .i64 0, .int .i64 0] (n * 7)
theorem make_kys {n : Nat} (hn : n ≤ 1000) (w : World) : (Instr.makeSlice 24 (.int .i64 (n : Int)) (.int .i64 (n : Int))).run Tryz.prog w = .ok (.slice (some ⟨w.heap.size, 0, none⟩) n n) (w.alloc (.cells (zek n) 38)) := by
  obtain ⟨i0, hi, hz0, hz1, hz2⟩ := info_parts Tryz.infoKey
  have h := run_make (P := Tryz.prog) w 24 38 i0 _ Tryz.underlying24 hi hz0 .i64 .i64 n n (by omega) (Int.le_refl _) (by rw [hz2]; omega) (by omega)
  rw [hz1] at h
  simp only [Int.toNat_natCast] at h
  exact h
theorem own_kys {w : World} {B n : Nat} (hn : n ≤ 1000) (hb : B ≤ w.heap.size) {H : Nat} (hH : w.heap.size = H) : Own (w.alloc (.cells (zek n) 38)) B (.slice (some ⟨H, 0, none⟩) n n) (List.replicate n default) := by
  subst hH
  have h := World.ownsRow_lit (e := 38) (size := 7) w (zek n) n hb (by unfold maxLen; omega) (by simp [zek, size_madeCells])
  unfold Own
  rw [List.length_replicate, ← made_keys]
  exact h

end Go.Proofs.YtglbfpjjnboeaaaGreat
