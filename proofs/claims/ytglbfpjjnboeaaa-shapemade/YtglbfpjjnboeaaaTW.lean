/- The loop of a drawn shape's keys of paths: what holds at its head ('Dr'), and what a tape's call, a new block, a key more leave of it. -/
import Derived.Test.YtglbfpjjnboeaaaTU
import Derived.Test.YtglbfpjjnboeaaaMD7
namespace Go.Proofs.Ytglbfpjjnboeaaa
open Go Go.RowKit
open M

theorem Mk2.snoc {ks : List Pk} (h : Mk2 ks) {x : Pk} {At : Int} {c : Bool} {n : Nat} (hl : ks.length ≤ 2) (hA : ∀ i, i < ks.length → (pk ks i).t < At) (ht : x.t = At) (a0 : 0 ≤ At) (a1 : At ≤ 59) (hh : okHow x.h x.a x.b x.c x.d = true)
    (hs : Small x.ps) (n1 : 1 ≤ n) (n2 : n ≤ 6) (he : ∀ i, i < ks.length → (pk ks i).cl = c ∧ (pk ks i).ps.length = 3 * n + 1) (hx : x.cl = c ∧ x.ps.length = 3 * n + 1) : Mk2 (ks ++ [x]) := by
  have each : ∀ (P : Pk → Prop), (∀ i, i < ks.length → P (pk ks i)) → P x → ∀ i, i < (ks ++ [x]).length → P (pk (ks ++ [x]) i) := by
    intro P h1 h2 i hi
    simp at hi
    by_cases e : i < ks.length
    · rw [pk_left e]; exact h1 i e
    · obtain rfl : i = ks.length := by omega
      rw [pk_last]; exact h2
  have all := each (fun k => k.cl = c ∧ k.ps.length = 3 * n + 1) he hx
  refine ⟨by simp; omega, each (fun k => okHow k.h k.a k.b k.c k.d = true) h.how hh, each (fun k => 0 ≤ k.t ∧ k.t ≤ 59) h.tick (by omega), ?_, each (fun k => Small k.ps) h.small hs, each (fun k => ∃ n, 1 ≤ n ∧ n ≤ 6 ∧ k.ps.length = 3 * n + 1) h.form ⟨n, n1, n2, hx.2⟩, ?_⟩
  · intro i hi
    simp at hi
    by_cases e : i + 1 < ks.length
    · rw [pk_left e, pk_left (by omega)]; exact h.up i e
    · have e2 : i + 1 = ks.length := by omega
      rw [pk_left (by omega), e2, pk_last, ht]
      exact hA i (by omega)
  · intro i hi
    have a := all 0 (by simp)
    have b := all i hi
    rw [fits_eq (by rw [a.2, b.2]), a.1, b.1]
    simp

/-- The shape in the making in block A, its keys of paths so far ks, in the list lv; each path's own list; all ticks ahead of At. -/
structure Dr (w : World) (g : Nat) (v : Value) (R A : Nat) (z : Array Value) (c : Bool) (n : Nat) (At : Int) (s : Shp) (ks : List Pk) (lv : Value) (W : World) : Prop where
  t : TS3 w g v R A z (A + 1) s (shC { s with P := ks, vP := lv }) W
  own : Kown W (A + 1) lv ks
  paths : ∀ i, i < ks.length → Pown W (A + 1) (pk ks i).v (pk ks i).ps
  ne : ∀ i, i < ks.length → ∀ k, (pk ks i).v.ownBlock = some k → lv.ownBlock ≠ some k
  made : Mk2 ks
  all : ∀ i, i < ks.length → (pk ks i).cl = c ∧ (pk ks i).ps.length = 3 * n + 1
  last : ∀ i, i < ks.length → (pk ks i).t < At
  a0 : 0 ≤ At
  a1 : At ≤ 3 + 6 * ks.length
theorem Dr.call {w : World} {g : Nat} {v : Value} {R A n : Nat} {z : Array Value} {c : Bool} {At : Int} {s : Shp} {ks : List Pk} {lv : Value} {W W2 : World} (h : Dr w g v R A z c n At s ks lv W) (ht : Tp W2 g v) (hg : W.grownBy W2 (some g)) : Dr w g v R A z c n At s ks lv W2 := by
  have a := h.t.ga
  exact ⟨h.t.call ht hg, h.own.kept hg (fun k hk e => by simp at hk; have := (h.own.base k e).1; omega), fun i hi => (h.paths i hi).young hg (by omega), h.ne, h.made, h.all, h.last, h.a0, h.a1⟩
theorem Dr.alloc {w : World} {g : Nat} {v : Value} {R A n : Nat} {z : Array Value} {c : Bool} {At : Int} {s : Shp} {ks : List Pk} {lv : Value} {W : World} (h : Dr w g v R A z c n At s ks lv W) (o : Obj) : Dr w g v R A z c n At s ks lv (W.alloc o) :=
  ⟨h.t.alloc o, h.own.kept (World.grownBy_alloc W o none) (fun k hk => by cases hk), fun i hi => (h.paths i hi).alloc o, h.ne, h.made, h.all, h.last, h.a0, h.a1⟩
/-- Stores into a block that was made behind a world in which all this stood. -/
theorem Dr.set {w : World} {g : Nat} {v : Value} {R A n : Nat} {z : Array Value} {c : Bool} {At : Int} {s : Shp} {ks : List Pk} {lv : Value} {W0 W W2 : World} {k : Nat} (hw : Tp w g v) (h0 : Dr w g v R A z c n At s ks lv W0) (h : Dr w g v R A z c n At s ks lv W) (hk : W0.heap.size ≤ k) (hg : W.grownBy W2 (some k)) : Dr w g v R A z c n At s ks lv W2 := by
  have a := h0.t.am
  exact ⟨h.t.step hw hg (fun i hi => by simp at hi; omega), h.own.kept hg (fun i hi e => by simp at hi; have := (h0.own.base i e).2; omega), fun i hi => (h.paths i hi).kept hg (fun q hq e => by simp at hq; have := ((h0.paths i hi).base q e).2; omega), h.ne, h.made, h.all, h.last, h.a0, h.a1⟩
theorem Dr.snoc {w : World} {g : Nat} {v : Value} {R A n g' cap' : Nat} {z : Array Value} {c : Bool} {At At' : Int} {s : Shp} {ks : List Pk} {lv : Value} {W w' : World} {x : Pk} (hw : Tp w g v) (h : Dr w g v R A z c n At s ks lv W) (hl : ks.length ≤ 2) (ht : x.t = At) (hh : okHow x.h x.a x.b x.c x.d = true) (hs : Small x.ps) (n1 : 1 ≤ n) (n2 : n ≤ 6) (he : x.cl = c ∧ x.ps.length = 3 * n + 1)
    (hx : Pown W (A + 1) x.v x.ps) (hne : ∀ k, x.v.ownBlock = some k → lv.ownBlock ≠ some k) (A1 : At + 1 ≤ At') (A2 : At' ≤ At + 6)
    (ho : w'.ownsRow (A + 1) 57 8 (.slice (some ⟨g', 0, none⟩) (ks.length + 1) cap') (ks.length + 1) (pkls ks ++ pkl x)) (hg : W.grownBy w' lv.ownBlock) (hat : lv.ownBlock = some g' ∨ g' = W.heap.size) :
    Dr w g v R A z c n At' s (ks ++ [x]) (.slice (some ⟨g', 0, none⟩) (ks.length + 1) cap') (w'.setCell ⟨A, 4, none⟩ (.slice (some ⟨g', 0, none⟩) (ks.length + 1) cap')) := by
  have b0 := h.a0
  have b1 := h.a1
  have hrow : ∀ k, lv.ownBlock = some k → A + 1 ≤ k := fun k hk => (h.own.base k hk).1
  have hset : w'.grownBy (w'.setCell ⟨A, 4, none⟩ (.slice (some ⟨g', 0, none⟩) (ks.length + 1) cap')) (some A) := grownBy_set (World.grownBy.refl _ _) _ _
  have each : ∀ (P : Pk → Prop), (∀ i, i < ks.length → P (pk ks i)) → P x → ∀ i, i < (ks ++ [x]).length → P (pk (ks ++ [x]) i) := by
    intro P h1 h2 i hi
    simp at hi
    by_cases e : i < ks.length
    · rw [pk_left e]; exact h1 i e
    · obtain rfl : i = ks.length := by omega
      rw [pk_last]; exact h2
  refine ⟨(h.t.step hw hg (fun k hk => by have := hrow k hk; omega)).put hw 4 _ rfl ((h.t.step hw hg (fun k hk => by have := hrow k hk; omega)).lsts), ?_, ?_, ?_, h.made.snoc hl h.last ht b0 (by omega) hh hs n1 n2 h.all he, each (fun k => k.cl = c ∧ k.ps.length = 3 * n + 1) h.all he, ?_, by omega, by simp; omega⟩
  · have ko : Kown w' (A + 1) (.slice (some ⟨g', 0, none⟩) (ks.length + 1) cap') (ks ++ [x]) := by
      unfold Kown
      rw [pkls_snoc, List.length_append]
      exact ho
    exact ko.kept hset (fun k hk e => by simp at hk; have := (ko.base k e).1; omega)
  · refine each (fun k => Pown _ (A + 1) k.v k.ps) (fun i hi => ?_) ?_
    · have p := (h.paths i hi).kept hg (fun k hk e => h.ne i hi k e hk)
      exact p.kept hset (fun k hk e => by simp at hk; have := (p.base k e).1; omega)
    · have p := hx.kept hg (fun k hk e => hne k e hk)
      exact p.kept hset (fun k hk e => by simp at hk; have := (p.base k e).1; omega)
  · refine each (fun q => ∀ k, q.v.ownBlock = some k → Value.ownBlock (.slice (some ⟨g', 0, none⟩) (ks.length + 1) cap') ≠ some k) (fun i hi k hk e => ?_) (fun k hk e => ?_)
    · have e' : some g' = some k := e
      simp at e'
      rcases hat with hat | hat
      · exact h.ne i hi k hk (by rw [hat, e'])
      · have := ((h.paths i hi).base k hk).2; omega
    · have e' : some g' = some k := e
      simp at e'
      rcases hat with hat | hat
      · exact hne k hk (by rw [hat, e'])
      · have := (hx.base k hk).2; omega
  · exact each (fun k => k.t < At') (fun i hi => by have := h.last i hi; omega) (by omega)
theorem Dr.len {w : World} {g : Nat} {v : Value} {R A n : Nat} {z : Array Value} {c : Bool} {At : Int} {s : Shp} {ks : List Pk} {lv : Value} {W : World} (h : Dr w g v R A z c n At s ks lv W) : ∃ ao cap, lv = .slice ao ks.length cap := by
  rcases h.own.2 with ⟨rfl, hn⟩ | ⟨g, cap, cur, rfl, _⟩
  · exact ⟨none, 0, by rw [hn]⟩
  · exact ⟨_, cap, rfl⟩
/-- Behind the loop: the shape with its keys of paths, its lists ahead of the world's end. -/
theorem Dr.done {w : World} {g : Nat} {v : Value} {R A n : Nat} {z : Array Value} {c : Bool} {At : Int} {s : Shp} {ks : List Pk} {lv : Value} {W : World} (h : Dr w g v R A z c n At s ks lv W) : TS2 w g v R A z W.heap.size { s with P := ks, vP := lv } W := by
  have b := h.t.am
  have t := h.t.up b.2 (Nat.le_refl _)
  have fw := h.made.few
  exact ⟨t.tape, t.grown, t.has, t.r, t.ga, t.am, t.lsts.setP (h.own.kl (by omega) (fun i hi => (h.paths i hi).sl (by have := h.made.pos hi; omega))) (fun k hk => by have := h.own.base k hk; omega) (fun i hi k hk => by have := (h.paths i hi).base k hk; omega)⟩

end Go.Proofs.Ytglbfpjjnboeaaa
