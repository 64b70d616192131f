/- Lists of numbers (int64) of the call's own that grow by one (append). Conditions: those that each theorem names. -/
import Derived.Test.YtglbfpjjnboeaaaD1
import Derived.Test.YtglbfpjjnboeaaaApp
namespace Go.Proofs.Ytglbfpjjnboeaaa
open Go Go.RowKit
open M

/-- Numbers of the call's own. -/
def Jown (w : World) (base : Nat) (v : Value) (xs : List Int) : Prop := w.ownsRow base 2 1 v xs.length (xs.map (Value.int .i64))
theorem Jown.sl {w : World} {B : Nat} {v : Value} {xs : List Int} (h : Jown w B v xs) (hf : xs.length ≤ 8796093022208) : Isl w v xs := by
  rcases h.2 with ⟨rfl, hn⟩ | ⟨g, cap, cur, rfl, _, hg, _, _, _, ht⟩
  · exact ⟨none, 0, by rw [hn], hf, fun h0 => by omega⟩
  · refine ⟨_, cap, rfl, hf, fun _ => ⟨g, 0, rfl, fun i hi => ?_⟩⟩
    have hu : (xs.map (Value.int .i64))[i]? = some (.int .i64 (nm xs i)) := by simp [nm, List.getD, hi]
    rw [Nat.zero_add, cell_of_row w g i cur _ _ hg]
    rw [← ht, List.getElem?_take] at hu
    split at hu
    · simpa using hu
    · cases hu
theorem Jown.nil (w : World) (base : Nat) : Jown w base (.slice none 0 0) [] := World.ownsRow_nil _ _ _ _
theorem Jown.alloc {w : World} {B : Nat} {v : Value} {xs : List Int} (h : Jown w B v xs) (o : Obj) : Jown (w.alloc o) B v xs := World.ownsRow.alloc h o
theorem Jown.base {w : World} {B : Nat} {v : Value} {xs : List Int} (h : Jown w B v xs) (k : Nat) (hk : v.ownBlock = some k) : B ≤ k ∧ k < w.heap.size := World.ownsRow.lt h k hk
theorem Jown.below {w w' : World} {B : Nat} {v : Value} {xs : List Int} (h : Jown w B v xs) (hb : Below w.heap.size w w') : Jown w' B v xs := by
  refine World.ownsRow.kept h (grownBy_below hb (Nat.le_refl _)) ?_
  by_cases e : v.ownBlock = none
  · exact Or.inl e
  · exact Or.inr e
theorem Jown.len {w : World} {B : Nat} {v : Value} {xs : List Int} (h : Jown w B v xs) : ∃ ao cap, v = .slice ao xs.length cap := by
  rcases h.2 with ⟨rfl, hn⟩ | ⟨g, cap, cur, rfl, _⟩
  · exact ⟨none, 0, by rw [hn]⟩
  · exact ⟨_, cap, rfl⟩
theorem Try.infoI64 : (Try.prog.info? 2).map (fun i => (i.zero, i.size, i.bytes)) = some (some (.int .i64 0), 1, 8) := by kernel_rfl
/-- One number more. -/
theorem wpList_append_j {W : World} {B : Nat} {l : Value} {xs : List Int} {ops : Array Oper} {rest : List Oper} {op : Oper} {a : Act} {Q : Exit → Act → World → Prop} (hgd : op.guard = none) (s x : Operand)
    (hop : op.op = .call { callee := .builtin .append, args := #[s, x], argTypes := #[35, 35] }) (hs : a.eval s = l) (H : Nat) (hx : a.eval x = .slice (some ⟨H, 0, none⟩) 1 1) (y : Int) (hn : Has W H #[.int .i64 y] 2)
    (ho : Jown W B l xs) (hf : xs.length ≤ 900) (hb : B ≤ W.heap.size)
    (h : ∀ t' w', Jown w' B t' (xs ++ [y]) → W.grownBy w' l.ownBlock → wpList Try.prog ops Q rest (a.put op.dst t') w') : wpList Try.prog ops Q (op :: rest) a W := by
  obtain ⟨j0, hj, hy0, hy1, hy2⟩ := info_parts Try.infoI64
  refine wpList_append_near _ hgd s x 35 hop B 2 j0 (.int .i64 0) 1 8 Try.underlying35 hj hy0 hy1 hy2 rfl (by decide) l xs.length (xs.map (Value.int .i64)) hs ho ⟨H, 0, none⟩ 1 1 [.int .i64 y] hx rfl ?_ ?_ ?_ ?_ hb ?_
  · intro j u hu
    rw [Addr.add_lit, Nat.zero_add]
    exact hn.cell j u (by simpa using hu)
  · intro u hu
    simp at hu
    subst hu
    rfl
  · unfold maxLen; omega
  · omega
  · intro t' w' ho' hg _
    exact h t' w' (by unfold Jown; simpa using ho') hg

end Go.Proofs.Ytglbfpjjnboeaaa
