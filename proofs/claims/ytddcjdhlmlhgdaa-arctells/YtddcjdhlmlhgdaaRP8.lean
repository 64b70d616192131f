/- Contract of mutoscoperef8.Polys on two lists of polys that are alike: it returns true; of the memory nothing that was there turns. (Taken out of LY8.) -/
import Derived.Test.YtddcjdhlmlhgdaaY8
import Derived.Test.YtddcjdhlmlhgdaaQ8
namespace Go.Proofs.Ytddcjdhlmlhgdaa
open Go Go.RowKit
open M

set_option maxRecDepth 100000 in
set_option maxHeartbeats 2000000 in
theorem r8_polys {v u : Value} {ys zs : List Po} {w : World} (h : Ysl w v ys) (h2 : Ysl w u zs) (hl : ys.length = zs.length) (he : ∀ j, j < ys.length → bareY (po ys j) = bareY (po zs j)) :
    Calls Try.prog 24 #[v, u] w fun e w' => e = .returned (.bool true) ∧ Below w.heap.size w w' := by
  have hs := h
  have hs2 := h2
  obtain ⟨ao, cap, rfl, hf, _⟩ := h
  obtain ⟨ao2, cap2, rfl, hf2, _⟩ := h2
  obtain ⟨N, hN⟩ : ∃ N, ys.length = N := ⟨_, rfl⟩
  rw [hN] at hl he hf hs
  rw [← hl] at hs2 hf2 ⊢
  rw [hN]
  have HS := Lib.hid hs
  have HS2 := Lib.hid hs2
  have HE := Lib.hid he
  have HN := Lib.hid hN
  have HL := Lib.hid hl
  clear hs hs2 he hN hl hf2
  go_enter Try.func24, Try.ntmps24
  go_wp2
  go_loopw [5] (fun i wr => ∃ n : Nat, n ≤ N ∧ i = .int .i64 n ∧ Below w.heap.size w wr) (fun i _ => N - (intOf i).toNat)
  case atStart => exact ⟨0, by omega, rfl, Below.refl _ _⟩
  case round =>
    obtain ⟨n, hn, rfl, hb⟩ := hrel
    by_cases hlt : n < N
    · obtain ⟨g, o, e1, r, l1⟩ := (HS.out.below hb).row (by omega)
      obtain ⟨g2, o2, e2, r2, l2⟩ := (HS2.out.below hb).row (by omega)
      subst e1 e2
      have b0 := HE.out n hlt
      have sa := r.sl n (by omega)
      have sb := r2.sl n (by omega)
      have c0 := r.c0 n (by omega)
      have c1 := r.c1 n (by omega)
      have d0 := r2.c0 n (by omega)
      have d1 := r2.c1 n (by omega)
      obtain ⟨y, hy⟩ : ∃ y, po ys n = y := ⟨_, rfl⟩
      obtain ⟨z, hz⟩ : ∃ y, po zs n = y := ⟨_, rfl⟩
      rw [hy] at b0 sa c0 c1
      rw [hz] at b0 sb d0 d1
      obtain ⟨c, vy, ps⟩ := y
      obtain ⟨c', vz, qs⟩ := z
      simp only [bareY, Prod.mk.injEq] at b0
      obtain ⟨rfl, rfl⟩ := b0
      simp only at sa sb c0 c1 d0 d1
      have y0 := fun z : Later wr => (z.below.cell (p := ⟨g, _, _⟩) (World.block_lt_of_cell? wr _ c0)).trans c0
      have y1 := fun z : Later wr => (z.below.cell (p := ⟨g, _, _⟩) (World.block_lt_of_cell? wr _ c1)).trans c1
      have z0 := fun z : Later wr => (z.below.cell (p := ⟨g2, _, _⟩) (World.block_lt_of_cell? wr _ d0)).trans d0
      have z1 := fun z : Later wr => (z.below.cell (p := ⟨g2, _, _⟩) (World.block_lt_of_cell? wr _ d1)).trans d1
      have PT : Hid (∀ z : Later wr, Calls Try.prog 17 #[vy, vz] z.to fun e w' => e = .returned (.bool true) ∧ Below z.to.heap.size z.to w') := Lib.hid (fun z => by have := r8_points (sa.later z) (sb.later z); rw [decide_eq_true rfl] at this; exact this)
      obtain ⟨aoy, ny, capy, evy⟩ : ∃ ao n cap, vy = .slice ao n cap := by obtain ⟨ao, cap, hv, _⟩ := sa; exact ⟨_, _, _, hv⟩
      obtain ⟨aoz, nz, capz, evz⟩ : ∃ ao n cap, vz = .slice ao n cap := by obtain ⟨ao, cap, hv, _⟩ := sb; exact ⟨_, _, _, hv⟩
      subst evy evz
      have HBB := Lib.hid hb
      have o3 : (n : Int) < N := by omega
      have o4 : n < N := hlt
      clear r r2 l1 l2 hy hz hb sa sb c0 c1 d0 d1
      go_upto_region 6 with fail
      refine wp_region_class (C := fun w' => ∃ z : Later wr, w' = z.to) (by kernel_rfl) (by kernel_rfl) ⟨⟨_, below_drew (Below.refl _ _)⟩, rfl⟩ ?_
      repeat (go_big_quiet_step (first | (go_at_call 17; exact Later.calls (PT.out _))))
      refine wpQuiet_nil ?_
      rintro _ ⟨z, rfl⟩
      have BZ := Lib.hid (HBB.out.trans (z.below.mono HBB.out.size))
      clear y0 y1 z0 z1
      go_wp2
      go_roundw
      case rel => exact ⟨n + 1, by omega, by go_num, BZ.out⟩
      case measure => simp [intOf]; omega
    · obtain rfl : n = N := by omega
      have o3 : ¬ (n : Int) < n := by omega
      have HBB := Lib.hid hb
      clear hb
      go_wp2
      go_ret
      exact ⟨rfl, HBB.out⟩

end Go.Proofs.Ytddcjdhlmlhgdaa
