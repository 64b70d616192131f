/- Contract of mutoscopelaw6.rising: it returns keys of its own that rise (at most forty, of the ticks from -4 to 315; those that are no curve have no ease); of the memory nothing that was there turns. -/
import Derived.Test.YtibgilaeepmheaaCO
import Derived.Test.YtibgilaeepmheaaKE5
namespace Go.Proofs.Ytibgilaeepmheaa
open Go.RowKit
open M

/-- Keys of colours that rise, within the bounds of 'rising', all of them at most at the tick A. -/
structure Crise (rs : List Ck) (A : Int) : Prop where
  few : rs.length ≤ 40
  top : A ≤ 8 * rs.length - 5
  bot : -5 ≤ A
  ok : ∀ i, i < rs.length → (ck rs i).p.Ok
  tick : ∀ i, i < rs.length → -5 < (ck rs i).t ∧ (ck rs i).t ≤ A
  how : ∀ i, i < rs.length → 0 ≤ (ck rs i).h ∧ (ck rs i).h ≤ 2
  plain : ∀ i, i < rs.length → (ck rs i).h ≠ 2 → (ck rs i).a = 0 ∧ (ck rs i).b = 0 ∧ (ck rs i).c = 0 ∧ (ck rs i).d = 0
  up : ∀ i, i + 1 < rs.length → (ck rs i).t < (ck rs (i + 1)).t
theorem Crise.nil : Crise [] (-5) := ⟨by simp, by simp, by decide, by simp, by simp, by simp, by simp, by simp⟩
theorem Crise.snoc {rs : List Ck} {A : Int} (h : Crise rs A) {k : Ck} (hl : rs.length < 40) (hk : k.p.Ok) (h1 : A + 1 ≤ k.t) (h2 : k.t ≤ A + 8) (a1 : 0 ≤ k.h) (a2 : k.h ≤ 2) (a3 : k.h ≠ 2 → k.a = 0 ∧ k.b = 0 ∧ k.c = 0 ∧ k.d = 0) : Crise (rs ++ [k]) k.t := by
  have hb := h.bot
  have ht := h.top
  refine ⟨by simp; omega, by simp; omega, by omega, ?_, ?_, ?_, ?_, ?_⟩
  · intro i hi
    simp at hi
    by_cases e : i < rs.length
    · rw [ck_left e]; exact h.ok i e
    · obtain rfl : i = rs.length := by omega
      rw [ck_last]; exact hk
  · intro i hi
    simp at hi
    by_cases e : i < rs.length
    · rw [ck_left e]; have := h.tick i e; omega
    · obtain rfl : i = rs.length := by omega
      rw [ck_last]; omega
  · intro i hi
    simp at hi
    by_cases e : i < rs.length
    · rw [ck_left e]; exact h.how i e
    · obtain rfl : i = rs.length := by omega
      rw [ck_last]; omega
  · intro i hi
    simp at hi
    by_cases e : i < rs.length
    · rw [ck_left e]; exact h.plain i e
    · obtain rfl : i = rs.length := by omega
      rw [ck_last]; exact a3
  · intro i hi
    simp at hi
    by_cases e : i + 1 < rs.length
    · rw [ck_left e, ck_left (by omega)]; exact h.up i e
    · have e2 : i + 1 = rs.length := by omega
      rw [ck_left (by omega), e2, ck_last]
      have := (h.tick i (by omega)).2
      omega
/-- A slice of colour keys that came in: none, or as many as its length says, of which the first forty are these. -/
def Carg (w : World) (v : Value) (ks : List Ck) : Prop := (ks = [] ∧ ∃ ao cap, v = .slice ao 0 cap) ∨ ∃ g o len cap, v = .slice (some ⟨g, o, none⟩) len cap ∧ 0 < len ∧ len ≤ cap ∧ cap ≤ 9223372036854775807 ∧ ks.length = min len 40 ∧ Crow w g o ks
theorem Carg.below {w w' : World} {v : Value} {ks : List Ck} (h : Carg w v ks) (hb : Below w.heap.size w w') : Carg w' v ks := by
  rcases h with h | ⟨g, o, len, cap, hv, h0, h1, h2, hn, hr⟩
  · exact Or.inl h
  · exact Or.inr ⟨g, o, len, cap, hv, h0, h1, h2, hn, hr.below hb (hr.lt (by omega))⟩

end Go.Proofs.Ytibgilaeepmheaa
