/- Contracts of mutoscopekeep's Tape (ease, how): for every tape they give eases and ways that may be; the tape alone turns. -/
import Derived.Test.YtdpfkhliechkhaaT5
namespace Go.Proofs.Ytdpfkhliechkhaa
open Go.RowKit
open M

abbrev four0 : Array Value := #[.int .i64 0, .int .i64 0, .int .i64 0, .int .i64 0]
def Eases (w : World) (g : Nat) (v : Value) (e : Ending) (w' : World) : Prop := ∃ a b c d : Int, e = .returned (.agg #[.int .i64 a, .int .i64 b, .int .i64 c, .int .i64 d]) ∧ okE a b c d = true ∧ Tp w' g v ∧ w.grownBy w' (some g)
def Hows (w : World) (g : Nat) (v : Value) (e : Ending) (w' : World) : Prop := ∃ k a b c d : Int, e = .returned (.tuple #[.int .i64 k, .agg #[.int .i64 a, .int .i64 b, .int .i64 c, .int .i64 d]]) ∧ okHow k a b c d = true ∧ Tp w' g v ∧ w.grownBy w' (some g)
/-- Four numbers put into a block of four that is younger than w. -/
theorem four_put {w w0 w1 : World} {g h : Nat} {v : Value} {cs : Array Value} (a b c d : Value) (ht0 : Tp w g v) (hh : w.heap.size ≤ h) (ht : Tp w1 g v) (hg : w.grownBy w1 (some g)) (_ : Has w1 h cs 56) (_ : w0 = w) :
    Tp ((((w1.setCell ⟨h, 0, none⟩ a).setCell ⟨h, 1, none⟩ b).setCell ⟨h, 2, none⟩ c).setCell ⟨h, 3, none⟩ d) g v ∧ w.grownBy ((((w1.setCell ⟨h, 0, none⟩ a).setCell ⟨h, 1, none⟩ b).setCell ⟨h, 2, none⟩ c).setCell ⟨h, 3, none⟩ d) (some g) := by
  have hk : w1.grownBy ((((w1.setCell ⟨h, 0, none⟩ a).setCell ⟨h, 1, none⟩ b).setCell ⟨h, 2, none⟩ c).setCell ⟨h, 3, none⟩ d) (some h) := grownBy_set (grownBy_set (grownBy_set (grownBy_set (World.grownBy.refl _ _) _ _) _ _) _ _) _ _
  exact ⟨ht0.young ht hk (fun k e => by simp at e; omega), grownBy_own hg hk (fun k e => by simp at e; omega)⟩
theorem tp_alloc {w : World} {g : Nat} {v : Value} (h : Tp w g v) (o : Obj) : Tp (w.alloc o) g v := h.blocks fun k hk => (MapKept.heap_alloc w o).2 k hk
theorem has_grown {w w' : World} {g h : Nat} {cs : Array Value} {t : TypeId} (hh : Has w h cs t) (hg : w.grownBy w' (some g)) (hne : h ≠ g) : Has w' h cs t := (hg.block h hh.lt (by simpa using hne)).trans hh


end Go.Proofs.Ytdpfkhliechkhaa
