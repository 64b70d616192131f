/- wp_region_make for one new variable, for every program. -/
import Derived.Test.YtibgilaeepmheaaMake
namespace Go.Proofs.Ytibgilaeepmheaa
open Go Go.RowKit

theorem has_setQ {w : World} {g k : Nat} {cs : Array Value} {t : TypeId} (h : Has w g cs t) (hne : g ≠ k) (j : Nat) (u : Value) : Has (w.setCell ⟨k, j, none⟩ u) g cs t :=
  (heap_setCell_other _ ⟨k, _, none⟩ g _ (fun e => hne (by simpa using e))).trans h
theorem wp_region_make1 {P : Program} {id : Nat} {Q : Exit → Act → World → Prop} {a : Act} {w : World} {L : List Oper} (n : Nat) (o0 : Obj) (hm : P.follows .mixedOrders = true) (hB : (Region.noSelect (lame n 1 L).toArray && lexL .any (lame n 1 L).toArray (List.range n ++ rests n [] L.length) (Array.replicate L.length false)) = true) (hF : makeB n 1 [] L = true)
    (h0 : ∃ o, L[n]? = some o ∧ ∀ (x : Operand → Value) (w : World), (execOp x o).run P w = .ok (.value (ptr w.heap.size)) (w.alloc o0))
    (h : ∃ a', (∀ R, Stays R → Nonempty (LaterR w R) → wpQuiet P L.toArray (Cls w R) (fun x => x = a') (L.take n) a) ∧
      ∀ g0 w', Below w.heap.size w w' → w'.heap[g0]? = some o0 → w.heap.size ≤ g0 →
        wpList P L.toArray Q (L.drop (n + 1)) (a'.put ((L[n]?).bind (·.dst)) (.pointer (some ⟨g0, 0, none⟩))) w') :
    (Code.region id L.toArray true).wp P Q a w := by
  obtain ⟨a', hq, hfin⟩ := h
  refine wp_region_make n 1 (fun _ => o0) hm hB hF (fun k hk => ?_) ⟨a', hq, fun G w' hb hR hG => ?_⟩
  · rcases (show k = 0 by omega) with rfl
    exact h0
  · obtain ⟨g0, e0⟩ := hG 0 (by omega)
    have := hfin g0 w' hb (hR.has 0 g0 (by omega) e0) (hR.lo 0 g0 (by omega) e0)
    simp only [putG, e0, ptr, Nat.add_zero]
    exact this

end Go.Proofs.Ytibgilaeepmheaa
