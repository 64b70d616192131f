/- A slice of keys among the arguments, opened: it is 'Arg' of some keys. No condition. -/
import Derived.Test.YtmbbhhaoiicegaaRI5
import Derived.Deep.Slices
import Derived.Deep.Fields
import Derived.ChangeSame
namespace Go.Proofs.Ytmbbhhaoiicegaa
open Go.RowKit Go.ChangeShapes Go.WideShapes Go.Deep
open M

section
variable {H : Type} {enc : TypeId × Value → H} {w : World} {base : Nat} {spare : Nat → Bool} {held : Bool}
theorem cells_i64 : Try.prog.cellsOf 2 = 1 := by kernel_rfl
theorem cells_int : Try.prog.cellsOf 3 = 1 := by kernel_rfl
theorem cells_ease : Try.prog.cellsOf 29 = 4 := by kernel_rfl
theorem cells_key : Try.prog.cellsOf 54 = 7 := by kernel_rfl

theorem some_at {α : Type} {xs : List α} {i n : Nat} (h : xs.length = n) (hi : i < n) : ∃ x, xs[i]? = some x := ⟨_, List.getElem?_eq_getElem (by omega)⟩
theorem int_one {t : TypeId} {n : Nat} {c : Value} {x : Option (DataW H × List MemPlace)} (ht : Try.prog.underlying t = some (.int .i64)) (h : DataW.trod enc Try.prog w base spare held n t [c] = x) (hx : ∃ y, x = some y) : ∃ k : Int, c = .int .i64 k := by
  obtain ⟨y, rfl⟩ := hx
  obtain ⟨k, hk, _⟩ := DataW.trod_int ht h
  exact ⟨k, by simpa using hk⟩
theorem ease_cells {n : Nat} {c0 c1 c2 c3 : Value} {x : Option (DataW H × List MemPlace)} (h : DataW.trod enc Try.prog w base spare held n 29 [c0, c1, c2, c3] = x) (hx : ∃ y, x = some y) : ∃ a b c d : Int, c0 = .int .i64 a ∧ c1 = .int .i64 b ∧ c2 = .int .i64 c ∧ c3 = .int .i64 d := by
  obtain ⟨y, rfl⟩ := hx
  obtain ⟨xs, m, _, _, _, hxl, hf⟩ := DataW.trod_struct Try.underlying29 h
  have f0 : DataW.trod enc Try.prog w base spare held m 2 (([c0, c1, c2, c3].drop 0).take (Try.prog.cellsOf 2)) = xs[0]? := hf 0 _ rfl
  have f1 : DataW.trod enc Try.prog w base spare held m 2 (([c0, c1, c2, c3].drop 1).take (Try.prog.cellsOf 2)) = xs[1]? := hf 1 _ rfl
  have f2 : DataW.trod enc Try.prog w base spare held m 2 (([c0, c1, c2, c3].drop 2).take (Try.prog.cellsOf 2)) = xs[2]? := hf 2 _ rfl
  have f3 : DataW.trod enc Try.prog w base spare held m 2 (([c0, c1, c2, c3].drop 3).take (Try.prog.cellsOf 2)) = xs[3]? := hf 3 _ rfl
  rw [cells_i64] at f0 f1 f2 f3
  obtain ⟨a, rfl⟩ := int_one Try.underlying2 f0 (some_at hxl (by decide))
  obtain ⟨b, rfl⟩ := int_one Try.underlying2 f1 (some_at hxl (by decide))
  obtain ⟨c, rfl⟩ := int_one Try.underlying2 f2 (some_at hxl (by decide))
  obtain ⟨d, rfl⟩ := int_one Try.underlying2 f3 (some_at hxl (by decide))
  exact ⟨a, b, c, d, rfl, rfl, rfl, rfl⟩
theorem key_cells {n : Nat} {cs : List Value} {x : DataW H × List MemPlace} (h : DataW.trod enc Try.prog w base spare held n 54 cs = some x) : ∃ k : Ky, cs = kl k := by
  obtain ⟨xs, m, _, _, hlen, hxl, hf⟩ := DataW.trod_struct Try.underlying54 h
  rw [cells_key] at hlen
  match cs, hlen with
  | [c0, c1, c2, c3, c4, c5, c6], _ =>
    have f0 : DataW.trod enc Try.prog w base spare held m 2 (([c0, c1, c2, c3, c4, c5, c6].drop 0).take (Try.prog.cellsOf 2)) = xs[0]? := hf 0 _ rfl
    have f1 : DataW.trod enc Try.prog w base spare held m 2 (([c0, c1, c2, c3, c4, c5, c6].drop 1).take (Try.prog.cellsOf 2)) = xs[1]? := hf 1 _ rfl
    have f2 : DataW.trod enc Try.prog w base spare held m 3 (([c0, c1, c2, c3, c4, c5, c6].drop 2).take (Try.prog.cellsOf 3)) = xs[2]? := hf 2 _ rfl
    have f3 : DataW.trod enc Try.prog w base spare held m 29 (([c0, c1, c2, c3, c4, c5, c6].drop 3).take (Try.prog.cellsOf 29)) = xs[3]? := hf 3 _ rfl
    rw [cells_i64] at f0 f1
    rw [cells_int] at f2
    rw [cells_ease] at f3
    obtain ⟨t, rfl⟩ := int_one Try.underlying2 f0 (some_at hxl (by decide))
    obtain ⟨v, rfl⟩ := int_one Try.underlying2 f1 (some_at hxl (by decide))
    obtain ⟨k, rfl⟩ := int_one Try.underlying3 f2 (some_at hxl (by decide))
    obtain ⟨a, b, c, d, rfl, rfl, rfl, rfl⟩ := ease_cells f3 (some_at hxl (by decide))
    exact ⟨⟨t, v, k, a, b, c, d⟩, rfl⟩

theorem open_keys {r : Reach} {b0 : Nat} {v : Value} {d : DataW H} {p : List MemPlace} (hv : Value.okWide Try.prog w r b0 48 v) (h : DataW.Trod enc Try.prog w base (fun _ => true) held 48 v d p) : ∃ ks, Arg w v ks := by
  obtain ⟨a0, len0, cap0, rfl⟩ := okWide_slice Try.underlying48 hv
  obtain ⟨fuel, hf⟩ := h
  rcases open_slice Try.underlying48 hf with ⟨hc, _⟩ | ⟨a, len, cap, m, n, D, Pl, hc, _, hl, hm, hmm, _, hi⟩
  · simp [Value.cells] at hc
    obtain ⟨rfl, rfl, rfl⟩ := hc
    exact ⟨[], Or.inl ⟨rfl, _, _, rfl⟩⟩
  · simp [Value.cells] at hc
    obtain ⟨rfl, rfl, rfl⟩ := hc
    rw [if_pos rfl] at hmm
    subst hmm
    by_cases h0 : len0 = 0
    · subst h0
      exact ⟨[], Or.inl ⟨rfl, _, _, rfl⟩⟩
    · have key : ∀ i, i < len0 → ∃ k : Ky, ∀ j u, (kl k)[j]? = some u → w.cell? (a.add (i * 7 + j)) = some u := by
        intro i hil
        obtain ⟨cs', hcs, ht⟩ := hi i (by omega)
        obtain ⟨k, rfl⟩ := key_cells ht
        rw [cells_key] at hcs
        obtain ⟨_, hcl, hat⟩ := World.cells?_some hcs
        refine ⟨k, fun j u hu => ?_⟩
        have hj : j < 7 := by
          have := (List.getElem?_eq_some_iff.1 hu).1
          simpa [kl] using this
        rw [← Go.Deep.add_add, hat j hj, hu]
      obtain ⟨f, hf'⟩ := choose_lt key
      have hspot : a.spot = none := by
        have := hf' 0 (by omega) 0 _ rfl
        simpa [Addr.add] using World.cell?_spot this
      obtain ⟨g, o, sp⟩ := a
      simp only at hspot
      subst hspot
      refine ⟨(List.range (min len0 40)).map f, Or.inr ⟨g, o, len0, _, rfl, by omega, hl, hm, by simp, ?_⟩⟩
      refine row_of (by simp; omega) fun j u hu => ?_
      have hj : j < min len0 40 * 7 := by
        have := (List.getElem?_eq_some_iff.1 hu).1
        rw [kls_length] at this
        simpa using this
      have e1 : j = j / 7 * 7 + j % 7 := by omega
      rw [e1] at hu ⊢
      rw [kls_at (by simp; omega) (by omega)] at hu
      have e2 : ky ((List.range (min len0 40)).map f) (j / 7) = f (j / 7) := by
        unfold ky
        rw [List.getD_eq_getElem?_getD, List.getElem?_map, List.getElem?_range (by omega)]
        rfl
      rw [e2] at hu
      have := hf' (j / 7) (by omega) (j % 7) u hu
      rwa [Addr.add_lit] at this
end

end Go.Proofs.Ytmbbhhaoiicegaa
