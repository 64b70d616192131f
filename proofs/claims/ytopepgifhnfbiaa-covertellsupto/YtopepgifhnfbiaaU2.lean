/- Contracts of stroke.Area and of the reference's Area: for all lists of places what the plain arithmetic says; of the memory nothing that was there turns. -/
import Derived.Test.YtopepgifhnfbiaaU1
import Derived.Test.YtopepgifhnfbiaaN2
namespace Go.Proofs.Ytopepgifhnfbiaa
open Go Go.RowKit
open M

abbrev zq : Obj := .cells #[.int .i64 0, .int .i64 0] 28
/-- Two new variables, stored. -/
theorem pair2 {W w : World} {g0 g1 : Nat} {t : TypeId} (h0 : Has w g0 #[.int .i64 0, .int .i64 0] t) (h1 : Has w g1 #[.int .i64 0, .int .i64 0] t) (l0 : W.heap.size ≤ g0) (l1 : W.heap.size ≤ g1) (n : g0 ≠ g1) (hb : Below W.heap.size W w) (p q : Pt) :
    ∃ U, (((w.setCell ⟨g0, 0, none⟩ (.int .i64 p.x)).setCell ⟨g0, 1, none⟩ (.int .i64 p.y)).setCell ⟨g1, 0, none⟩ (.int .i64 q.x)).setCell ⟨g1, 1, none⟩ (.int .i64 q.y) = U ∧ Has U g0 (pCells p) t ∧ Has U g1 (pCells q) t ∧ Below W.heap.size W U :=
  two_res h0 h1 n hb l0 l1

theorem w64_eq (n : Int) : w64 n = wrap64 n := by unfold w64 wrap64; rfl
set_option maxRecDepth 100000 in
set_option maxHeartbeats 2000000 in
theorem r9_area {v : Value} {ps : List Pt} {w : World} (h : Psl w v ps) :
    Calls Try.prog 67 #[v] w fun r w' => r = .returned (.int .i64 (areaL ps)) ∧ Below w.heap.size w w' := by
  have HS := Lib.hid h
  obtain ⟨ao, cap, rfl, hf, _⟩ := h
  obtain ⟨N, hN⟩ : ∃ N, ps.length = N := ⟨_, rfl⟩
  have EL : Hid (areaL ps = areaN ps N) := Lib.hid (by unfold areaL; rw [hN])
  rw [hN] at hf HS ⊢
  have HN := Lib.hid hN
  clear hN
  go_enter Try.func67, Try.ntmps67
  go_wp2_with fail
  go_loopw [3, 4] (fun s i wr => ∃ n : Nat, n ≤ N ∧ s = .int .i64 (areaN ps n) ∧ i = .int .i64 n ∧ Below w.heap.size w wr) (fun _ i _ => N - (intOf i).toNat)
  case atStart => exact ⟨0, by omega, rfl, rfl, Below.refl _ _⟩
  case round =>
    obtain ⟨n, hn, es, rfl, hb⟩ := hrel
    have HBB := Lib.hid hb
    have sb := areaN_lo ps n
    obtain ⟨s, hs⟩ : ∃ s, areaN ps n = s := ⟨_, rfl⟩
    rw [hs] at es sb
    subst es
    obtain ⟨s1, s2⟩ := sb
    have HSS := Lib.hid hs
    clear hs hb
    by_cases hlt : n < N
    · have o3 : (n : Int) < N := by omega
      have o4 : ¬ (N : Int) = 0 := by omega
      obtain ⟨g, o, e1, row⟩ : ∃ g o, ao = some ⟨g, o, none⟩ ∧ Prow wr g o ps := by
        obtain ⟨ao', cap', hv, _, hr⟩ := HS.out.below HBB.out (Nat.le_refl _)
        simp at hv
        obtain ⟨rfl, _⟩ := hv
        exact hr (by have := HN.out; omega)
      subst e1
      obtain ⟨j, hj⟩ : ∃ j, nxt N n = j := ⟨_, rfl⟩
      have hjl : j < N := by rw [← hj]; exact nxt_lt hlt
      have hmod : Int.tmod ((n : Int) + 1) (N : Int) = (j : Int) := by rw [nxt_mod hlt, hj]
      have hmod' : ((n : Int) + 1) % (N : Int) = (j : Int) := by rw [← hmod, Int.tmod_eq_emod_of_nonneg (by omega)]
      have oj : (j : Int) < N := by omega
      obtain ⟨p, hp⟩ : ∃ p, pt ps n = p := ⟨_, rfl⟩
      obtain ⟨q, hq⟩ : ∃ q, pt ps j = q := ⟨_, rfl⟩
      have STEP : Hid (areaN ps (n + 1) = w64 (s + xp (plc p) (plc q))) := Lib.hid (by
        show w64 (areaN ps n + cross ps n) = _
        unfold cross sa sb
        rw [HSS.out, HN.out, hj, hp, hq])
      have PX : Hid (∀ (R : World → Prop) (z : LaterR wr R), (z.to.cell? ⟨g, o + n * 2, none⟩ = some (.int .i64 p.x) ∧ z.to.cell? ⟨g, o + n * 2 + 1, none⟩ = some (.int .i64 p.y)) ∧ (z.to.cell? ⟨g, o + j * 2, none⟩ = some (.int .i64 q.x) ∧ z.to.cell? ⟨g, o + j * 2 + 1, none⟩ = some (.int .i64 q.y))) := Lib.hid (fun R z => ⟨row.laterR (by have := HN.out; omega) hp z, row.laterR (by have := HN.out; omega) hq z⟩)
      have BV := HBB
      clear row hp hq hj
      go_upto_region 5 with fail
      refine wp_region_make2 14 zq zq (by kernel_rfl) (by kernel_rfl) (by kernel_rfl) ⟨_, rfl, fun x w => by simp [go_sem, ptr]⟩ ⟨_, rfl, fun x w => by simp [go_sem, ptr]⟩ ?_
      apply Exists.intro
      refine ⟨fun R hR hN => ?_, ?_⟩
      · have a0 := fun z => (PX.out R z).1.1
        have a1 := fun z => (PX.out R z).1.2
        have b0 := fun z => (PX.out R z).2.1
        have b1 := fun z => (PX.out R z).2.2
        simp only [List.take_succ_cons, List.take_zero]
        repeat (go_big_quiet_step (first | (go_at_call 53; exact LaterR.calls hR (r9_placed _ _))))
        exact wpQuiet_nil rfl
      · intro g3 g4 w2 hb2 h3 h4 l3 l4 n34
        have k3 : Has w2 g3 #[.int .i64 0, .int .i64 0] 28 := h3
        have k4 : Has w2 g4 #[.int .i64 0, .int .i64 0] 28 := h4
        clear h3 h4
        simp only [List.drop_succ_cons, List.drop_zero]
        have c00 := k3.cell 0 _ rfl
        have c01 := k3.cell 1 _ rfl
        have c10 := k4.cell 0 _ rfl
        have c11 := k4.cell 1 _ rfl
        have f0 := has_fro k3
        have f1 := has_fro k4
        obtain ⟨a1, a2, a3, a4⟩ := pld_plc p
        obtain ⟨b1, b2, b3, b4⟩ := pld_plc q
        obtain ⟨pa, ha⟩ : ∃ a, plc p = a := ⟨_, rfl⟩
        obtain ⟨pb, hb⟩ : ∃ a, plc q = a := ⟨_, rfl⟩
        rw [ha] at a1 a2 a3 a4 STEP ⊢
        rw [hb] at b1 b2 b3 b4 STEP ⊢
        obtain ⟨U, hU, u0, u1, bU⟩ := pair2 k3 k4 l3 l4 n34 hb2 pa pb
        have HU := Lib.hid hU
        have BU := Lib.hid (BV.out.trans (bU.mono BV.out.size))
        have m1 := mul_two (m := 536870912) a1 a2 b3 b4
        have m2 := mul_two (m := 536870912) b1 b2 a3 a4
        obtain ⟨m1, m1'⟩ := m1
        obtain ⟨m2, m2'⟩ := m2
        have x0 := u0.cell 0 _ rfl
        have x1 := u0.cell 1 _ rfl
        have y0 := u1.cell 0 _ rfl
        have y1 := u1.cell 1 _ rfl
        obtain ⟨ax, ay⟩ := pa
        obtain ⟨bx, bY⟩ := pb
        simp only at a1 a2 a3 a4 b1 b2 b3 b4 m1 m1' m2 m2' x0 x1 y0 y1
        clear hU u0 u1 bU k3 k4 ha hb hb2 l3 l4
        go_upto_region 6 with fail
        rw [HU.out]
        clear c00 c01 c10 c11 f0 f1
        go_wp2
        go_roundw
        case rel => exact ⟨n + 1, by omega, by rw [STEP.out]; unfold xp; rw [← w64_two, w64_eq, w64_eq], by go_num, BU.out⟩
        case measure => simp [intOf]; omega
    · obtain rfl : n = N := by omega
      have o3 : ¬ (n : Int) < n := by omega
      have BX := HBB
      go_wp2
      go_ret
      exact ⟨by rw [EL.out, HSS.out]; rfl, BX.out⟩

end Go.Proofs.Ytopepgifhnfbiaa
