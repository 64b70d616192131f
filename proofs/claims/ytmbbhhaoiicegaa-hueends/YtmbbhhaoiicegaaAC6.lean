/- A colour, and a slice of colour keys, among the arguments, opened: four bytes; 'Carg' of some keys. No condition. -/
import Derived.Test.YtmbbhhaoiicegaaRI6
import Derived.Test.YtmbbhhaoiicegaaAK5
import Derived.OpenShut
import Derived.Laws.IdiomArrays
namespace Go.Proofs.Ytmbbhhaoiicegaa
open Go.RowKit Go.ChangeShapes Go.WideShapes Go.Deep
open M

section
variable {H : Type} {enc : TypeId × Value → H} {w : World} {base : Nat} {spare : Nat → Bool} {held : Bool}
theorem cells_u8 : Try.prog.cellsOf 5 = 1 := by kernel_rfl
theorem cells_color : Try.prog.cellsOf 24 = 4 := by kernel_rfl
theorem cells_ck : Try.prog.cellsOf 31 = 10 := by kernel_rfl
theorem byte_bd {n : Int} (h : (Lit.int .u8 n).wf = true) : 0 ≤ n ∧ n ≤ 255 := by
  simp [Lit.wf, IntKind.min, IntKind.max, IntKind.signed, IntKind.bits] at h
  omega
theorem byte_one {n : Nat} {c : Value} {y : DataW H × List MemPlace} (h : DataW.trod enc Try.prog w base spare held n 5 [c] = some y) : ∃ k : Int, c = .int .u8 k ∧ 0 ≤ k ∧ k ≤ 255 := by
  obtain ⟨k, hk, _, hw⟩ := DataW.trod_int Try.underlying5 h
  exact ⟨k, by simpa using hk, byte_bd hw⟩
theorem four_cells {t : TypeId} (ht : Try.prog.underlying t = some (.array 4 5)) {n : Nat} {c0 c1 c2 c3 : Value} {y : DataW H × List MemPlace} (h : DataW.trod enc Try.prog w base spare held n t [c0, c1, c2, c3] = some y) : ∃ x : Cr, [c0, c1, c2, c3] = (cCells x).toList ∧ x.Ok := by
  obtain ⟨y0, y1, y2, y3, m, _, h0, h1, h2, h3⟩ := trod_array4 ht cells_u8 h
  obtain ⟨a, rfl, a0, a1⟩ := byte_one h0
  obtain ⟨b, rfl, b0, b1⟩ := byte_one h1
  obtain ⟨c, rfl, e0, e1⟩ := byte_one h2
  obtain ⟨d, rfl, d0, d1⟩ := byte_one h3
  exact ⟨⟨a, b, c, d⟩, rfl, ⟨a0, a1, b0, b1, e0, e1, d0, d1⟩⟩
theorem okWide_four {P : Program} {t e : TypeId} {n : Nat} {r : Reach} {b0 : Nat} {v : Value} (ht : P.underlying t = some (.array n e)) (h : Value.okWide P w r b0 t v) : ∃ cs, v = .agg cs ∧ cs.size = P.cellsOf t := by
  unfold Value.okWide at h
  rw [ht] at h
  obtain ⟨cs, hv, hs, _⟩ := h
  exact ⟨cs, hv, hs⟩
theorem open_four {t : TypeId} (ht : Try.prog.underlying t = some (.array 4 5)) (hc : Try.prog.cellsOf t = 4) {r : Reach} {b0 : Nat} {v : Value} {d : DataW H} {p : List MemPlace} (hv : Value.okWide Try.prog w r b0 t v) (h : DataW.Trod enc Try.prog w base (fun _ => true) held t v d p) : ∃ x : Cr, v = .agg (cCells x) ∧ x.Ok := by
  obtain ⟨⟨L⟩, rfl, hs⟩ := okWide_four ht hv
  rw [hc] at hs
  obtain ⟨fuel, hf⟩ := h
  have hl : L.length = 4 := by simpa using hs
  match L, hl with
  | [c0, c1, c2, c3], _ =>
    have hf' : DataW.trod enc Try.prog w base (fun _ => true) held fuel t [c0, c1, c2, c3] = some (d, p) := hf
    obtain ⟨x, hx, hok⟩ := four_cells ht hf'
    refine ⟨x, ?_, hok⟩
    rw [hx]
theorem open_color {r : Reach} {b0 : Nat} {v : Value} {d : DataW H} {p : List MemPlace} (hv : Value.okWide Try.prog w r b0 24 v) (h : DataW.Trod enc Try.prog w base (fun _ => true) held 24 v d p) : ∃ x : Cr, v = .agg (cCells x) ∧ x.Ok :=
  open_four Try.underlying24 cells_color hv h
theorem cells_pixel : Try.prog.cellsOf 27 = 4 := by kernel_rfl
theorem open_pixel {r : Reach} {b0 : Nat} {v : Value} {d : DataW H} {p : List MemPlace} (hv : Value.okWide Try.prog w r b0 27 v) (h : DataW.Trod enc Try.prog w base (fun _ => true) held 27 v d p) : ∃ x : Cr, v = .agg (cCells x) ∧ x.Ok :=
  open_four Try.underlying27 cells_pixel hv h
theorem ck_cells {n : Nat} {cs : List Value} {x : DataW H × List MemPlace} (h : DataW.trod enc Try.prog w base spare held n 31 cs = some x) : ∃ k : Ck, cs = cl k ∧ k.p.Ok := by
  obtain ⟨xs, m, _, _, hlen, hxl, hf⟩ := DataW.trod_struct Try.underlying31 h
  rw [cells_ck] at hlen
  match cs, hlen with
  | [c0, c1, c2, c3, c4, c5, c6, c7, c8, c9], _ =>
    have f0 : DataW.trod enc Try.prog w base spare held m 2 (([c0, c1, c2, c3, c4, c5, c6, c7, c8, c9].drop 0).take (Try.prog.cellsOf 2)) = xs[0]? := hf 0 _ rfl
    have f1 : DataW.trod enc Try.prog w base spare held m 24 (([c0, c1, c2, c3, c4, c5, c6, c7, c8, c9].drop 1).take (Try.prog.cellsOf 24)) = xs[1]? := hf 1 _ rfl
    have f2 : DataW.trod enc Try.prog w base spare held m 3 (([c0, c1, c2, c3, c4, c5, c6, c7, c8, c9].drop 5).take (Try.prog.cellsOf 3)) = xs[2]? := hf 2 _ rfl
    have f3 : DataW.trod enc Try.prog w base spare held m 29 (([c0, c1, c2, c3, c4, c5, c6, c7, c8, c9].drop 6).take (Try.prog.cellsOf 29)) = xs[3]? := hf 3 _ rfl
    rw [cells_i64] at f0
    rw [cells_color] at f1
    rw [cells_int] at f2
    rw [cells_ease] at f3
    obtain ⟨y1, hy1⟩ := some_at (i := 1) hxl (by decide)
    rw [hy1] at f1
    obtain ⟨p, hp, hok⟩ := four_cells Try.underlying24 (show DataW.trod enc Try.prog w base spare held m 24 [c1, c2, c3, c4] = some y1 from f1)
    obtain ⟨t, rfl⟩ := int_one Try.underlying2 f0 (some_at hxl (by decide))
    obtain ⟨k, rfl⟩ := int_one Try.underlying3 f2 (some_at hxl (by decide))
    obtain ⟨a, b, c, d, rfl, rfl, rfl, rfl⟩ := ease_cells f3 (some_at hxl (by decide))
    simp at hp
    obtain ⟨rfl, rfl, rfl, rfl⟩ := hp
    exact ⟨⟨t, p, k, a, b, c, d⟩, rfl, hok⟩

theorem open_cks {r : Reach} {b0 : Nat} {v : Value} {d : DataW H} {p : List MemPlace} (hv : Value.okWide Try.prog w r b0 32 v) (h : DataW.Trod enc Try.prog w base (fun _ => true) held 32 v d p) : ∃ ks, Carg w v ks := by
  obtain ⟨a0, len0, cap0, rfl⟩ := okWide_slice Try.underlying32 hv
  obtain ⟨fuel, hf⟩ := h
  rcases open_slice Try.underlying32 hf with ⟨hc, _⟩ | ⟨a, len, cap, m, n, D, Pl, hc, _, hl, hm, hmm, _, hi⟩
  · simp [Value.cells] at hc
    obtain ⟨rfl, rfl, rfl⟩ := hc
    exact ⟨[], Or.inl ⟨rfl, _, _, rfl⟩⟩
  · simp [Value.cells] at hc
    obtain ⟨rfl, rfl, rfl⟩ := hc
    rw [if_pos rfl] at hmm
    subst hmm
    by_cases h0 : len0 = 0
    · subst h0
      exact ⟨[], Or.inl ⟨rfl, _, _, rfl⟩⟩
    · have key : ∀ i, i < len0 → ∃ k : Ck, (∀ j u, (cl k)[j]? = some u → w.cell? (a.add (i * 10 + j)) = some u) ∧ k.p.Ok := by
        intro i hil
        obtain ⟨cs', hcs, ht⟩ := hi i (by omega)
        obtain ⟨k, rfl, hok⟩ := ck_cells ht
        rw [cells_ck] at hcs
        obtain ⟨_, hcl, hat⟩ := World.cells?_some hcs
        refine ⟨k, fun j u hu => ?_, hok⟩
        have hj : j < 10 := by
          have := (List.getElem?_eq_some_iff.1 hu).1
          simpa [cl] using this
        rw [← Go.Deep.add_add, hat j hj, hu]
      obtain ⟨f, hf'⟩ := choose_lt key
      have hspot : a.spot = none := by
        have := (hf' 0 (by omega)).1 0 _ rfl
        simpa [Addr.add] using World.cell?_spot this
      obtain ⟨g, o, sp⟩ := a
      simp only at hspot
      subst hspot
      have e2 : ∀ i, i < min len0 40 → ck ((List.range (min len0 40)).map f) i = f i := by
        intro i hi'
        unfold ck
        rw [List.getD_eq_getElem?_getD, List.getElem?_map, List.getElem?_range hi']
        rfl
      refine ⟨(List.range (min len0 40)).map f, Or.inr ⟨g, o, len0, _, rfl, by omega, hl, hm, by simp, ?_⟩⟩
      refine crow_of (by simp; omega) (fun i hi' => ?_) fun j u hu => ?_
      · have hi2 : i < min len0 40 := by simpa using hi'
        rw [e2 i hi2]
        exact (hf' i (by omega)).2
      have hj : j < min len0 40 * 10 := by
        have := (List.getElem?_eq_some_iff.1 hu).1
        rw [cls_length] at this
        simpa using this
      have e1 : j = j / 10 * 10 + j % 10 := by omega
      rw [e1] at hu ⊢
      rw [cls_at (by simp; omega) (by omega)] at hu
      rw [e2 (j / 10) (by omega)] at hu
      have := (hf' (j / 10) (by omega)).1 (j % 10) u hu
      rwa [Addr.add_lit] at this
end

end Go.Proofs.Ytmbbhhaoiicegaa
