/- Contracts of hue.Luma, mutoscoperef5.Luma, mutoscoperef5.Mix: for all colours and shares what the plain arithmetic says; of the memory nothing that was there turns. Condition: the colours' parts are bytes. -/
import Derived.Test.YtafaafaclijfiaaHM
import Derived.Test.YtafaafaclijfiaaD
namespace Go.Proofs.Ytafaafaclijfiaa
open Go.RowKit
open M

attribute [local go_sem] alloc_drewN setCell_drewN shape_drewN

theorem tdiv_one (Q : Int) : (Q.tmod 65536 < 0 ∧ Q.tdiv 65536 - 1 = Q / 65536) ∨ (0 ≤ Q.tmod 65536 ∧ Q.tdiv 65536 = Q / 65536) := by
  rcases Int.le_total 0 Q with h | h
  · exact Or.inr ⟨Int.tmod_nonneg _ h, Int.tdiv_eq_ediv_of_nonneg h⟩
  · have e1 : Q.tdiv 65536 = -((-Q) / 65536) := by rw [← Int.tdiv_eq_ediv_of_nonneg (by omega), Int.neg_tdiv, Int.neg_neg]
    have e2 : Q.tmod 65536 = -((-Q) % 65536) := by rw [← Int.tmod_eq_emod_of_nonneg (by omega), Int.neg_tmod, Int.neg_neg]
    rw [e1, e2]
    omega
/-- What the document's own reckoning of one part comes to. -/
theorem part_facts {a b P : Int} (a0 : 0 ≤ a) (a1 : a ≤ 255) (b0 : 0 ≤ b) (b1 : b ≤ 255) (p0 : -1099511627776 ≤ P) (p1 : P ≤ 1099511627776) {C : Int} (hC : mixh a b P = C) :
    ∃ Q T R : Int, (b - a) * P = Q ∧ -280375465082880 ≤ Q ∧ Q ≤ 280375465082880 ∧ Q.tdiv 65536 = T ∧ Q.tmod 65536 = R ∧ -4278190081 ≤ T ∧ T ≤ 4278190081 ∧ -65536 < R ∧ R < 65536 ∧
      ((R < 0 ∧ clamp (a + (T - 1)) 0 255 = C) ∨ (0 ≤ R ∧ clamp (a + T) 0 255 = C)) := by
  obtain ⟨q0, q1⟩ := prod_bound (x := b - a) (y := P) (b := 255) (c := 1099511627776) (by omega) (by omega) (by omega) (by omega)
  unfold mixh at hC
  obtain ⟨Q, hQ⟩ : ∃ Q, (b - a) * P = Q := ⟨_, rfl⟩
  rw [hQ] at hC q0 q1
  have hd := tdiv_one Q
  have hm : -65536 < Q.tmod 65536 ∧ Q.tmod 65536 < 65536 := by
    have a := Int.tmod_lt_of_pos Q (show (0 : Int) < 65536 by decide)
    have b := Int.tmod_lt_of_pos (-Q) (show (0 : Int) < 65536 by decide)
    rw [Int.neg_tmod] at b
    omega
  refine ⟨Q, _, _, hQ, by omega, by omega, rfl, rfl, by omega, by omega, hm.1, hm.2, ?_⟩
  rcases hd with ⟨h1, h2⟩ | ⟨h1, h2⟩
  · exact Or.inl ⟨h1, by rw [h2]; exact hC⟩
  · exact Or.inr ⟨h1, by rw [h2]; exact hC⟩

set_option maxHeartbeats 2000000 in
theorem r5_mix (x y : Cr) (p : Int) (w : World) (hx : x.Ok) (hy : y.Ok) :
    Calls Try.prog 41 #[.agg (cCells x), .agg (cCells y), .int .i64 p] w fun e w' => e = .returned (.agg (cCells (mix x y p))) ∧ Below w.heap.size w w' := by
  have hc := mix_ok x y p
  obtain ⟨c, hcc⟩ : ∃ c, mix x y p = c := ⟨_, rfl⟩
  have p0 := hold_lo p
  have p1 := hold_hi p
  have hr : mixh x.r y.r (hold p) = c.r := by rw [← hcc]; rfl
  have hg : mixh x.g y.g (hold p) = c.g := by rw [← hcc]; rfl
  have hb : mixh x.b y.b (hold p) = c.b := by rw [← hcc]; rfl
  have hq : mixh x.q y.q (hold p) = c.q := by rw [← hcc]; rfl
  rw [hcc] at hc ⊢
  obtain ⟨P, hP⟩ : ∃ P, hold p = P := ⟨_, rfl⟩
  rw [hP] at hr hg hb hq p0 p1
  have HP := Lib.hid hP
  have F0 := Lib.hid (part_facts hx.r0 hx.r1 hy.r0 hy.r1 p0 p1 hr)
  have F1 := Lib.hid (part_facts hx.g0 hx.g1 hy.g0 hy.g1 p0 p1 hg)
  have F2 := Lib.hid (part_facts hx.b0 hx.b1 hy.b0 hy.b1 p0 p1 hb)
  have F3 := Lib.hid (part_facts hx.q0 hx.q1 hy.q0 hy.q1 p0 p1 hq)
  have B0 := Lib.hid (And.intro (And.intro hx.r0 hx.r1) (And.intro (And.intro hy.r0 hy.r1) (And.intro hc.r0 hc.r1)))
  have B1 := Lib.hid (And.intro (And.intro hx.g0 hx.g1) (And.intro (And.intro hy.g0 hy.g1) (And.intro hc.g0 hc.g1)))
  have B2 := Lib.hid (And.intro (And.intro hx.b0 hx.b1) (And.intro (And.intro hy.b0 hy.b1) (And.intro hc.b0 hc.b1)))
  have B3 := Lib.hid (And.intro (And.intro hx.q0 hx.q1) (And.intro (And.intro hy.q0 hy.q1) (And.intro hc.q0 hc.q1)))
  clear hr hg hb hq hP hcc hx hy hc
  obtain ⟨xr, xg, xb, xq⟩ := x
  obtain ⟨yr, yg, yb, yq⟩ := y
  obtain ⟨cr, cg, cb, cq⟩ := c
  simp only at F0 F1 F2 F3 B0 B1 B2 B3
  go_enter Try.func41, Try.ntmps41
  go_wp2_with (first | (go_at_call 56; refine (r_hold _ _).mono ?_; rintro e w' ⟨rfl, rfl⟩; rw [HP.out]))
  go_loopw [8, 9, 10] (fun i _ _ wr => ∃ n : Nat, n ≤ 4 ∧ i = .int .i64 n ∧ ∃ m, wr = (mixing w ⟨xr, xg, xb, xq⟩ ⟨yr, yg, yb, yq⟩ ⟨cr, cg, cb, cq⟩ n).drewN m) (fun i _ _ _ => 4 - (intOf i).toNat)
  case atStart => exact ⟨0, by omega, rfl, 0, rfl⟩
  case round =>
    obtain ⟨n, hn, rfl, m, rfl⟩ := hrel
    rcases (show n = 0 ∨ n = 1 ∨ n = 2 ∨ n = 3 ∨ n = 4 by omega) with rfl | rfl | rfl | rfl | rfl
    · rw [mixing_at]
      simp only [upto]
      obtain ⟨Q, T, R, hQ, q0, q1, hT, hR, t0, t1, r0, r1, hc⟩ := F0.out
      obtain ⟨⟨x0, x1⟩, ⟨y0, y1⟩, ⟨c0, c1⟩⟩ := B0.out
      clear F0 F1 F2 F3 B0 B1 B2 B3
      rcases hc with ⟨hs, hc⟩ | ⟨hs, hc⟩
      all_goals
        have HC := Lib.hid hc
        clear hc
        go_wp2
        go_quiet (first | fail)
        go_wp2_with (first | (go_at_call 40; refine (r_clamp _ _ _ _).mono ?_; rintro e w' ⟨rfl, rfl⟩; rw [HC.out]))
        go_roundw
        case rel => exact ⟨1, by omega, rfl, _, rfl⟩
        case measure => simp [intOf]
    · rw [mixing_at]
      simp only [upto]
      obtain ⟨Q, T, R, hQ, q0, q1, hT, hR, t0, t1, r0, r1, hc⟩ := F1.out
      obtain ⟨⟨x0, x1⟩, ⟨y0, y1⟩, ⟨c0, c1⟩⟩ := B1.out
      clear F0 F1 F2 F3 B0 B1 B2 B3
      rcases hc with ⟨hs, hc⟩ | ⟨hs, hc⟩
      all_goals
        have HC := Lib.hid hc
        clear hc
        go_wp2
        go_quiet (first | fail)
        go_wp2_with (first | (go_at_call 40; refine (r_clamp _ _ _ _).mono ?_; rintro e w' ⟨rfl, rfl⟩; rw [HC.out]))
        go_roundw
        case rel => exact ⟨2, by omega, rfl, _, rfl⟩
        case measure => simp [intOf]
    · rw [mixing_at]
      simp only [upto]
      obtain ⟨Q, T, R, hQ, q0, q1, hT, hR, t0, t1, r0, r1, hc⟩ := F2.out
      obtain ⟨⟨x0, x1⟩, ⟨y0, y1⟩, ⟨c0, c1⟩⟩ := B2.out
      clear F0 F1 F2 F3 B0 B1 B2 B3
      rcases hc with ⟨hs, hc⟩ | ⟨hs, hc⟩
      all_goals
        have HC := Lib.hid hc
        clear hc
        go_wp2
        go_quiet (first | fail)
        go_wp2_with (first | (go_at_call 40; refine (r_clamp _ _ _ _).mono ?_; rintro e w' ⟨rfl, rfl⟩; rw [HC.out]))
        go_roundw
        case rel => exact ⟨3, by omega, rfl, _, rfl⟩
        case measure => simp [intOf]
    · rw [mixing_at]
      simp only [upto]
      obtain ⟨Q, T, R, hQ, q0, q1, hT, hR, t0, t1, r0, r1, hc⟩ := F3.out
      obtain ⟨⟨x0, x1⟩, ⟨y0, y1⟩, ⟨c0, c1⟩⟩ := B3.out
      clear F0 F1 F2 F3 B0 B1 B2 B3
      rcases hc with ⟨hs, hc⟩ | ⟨hs, hc⟩
      all_goals
        have HC := Lib.hid hc
        clear hc
        go_wp2
        go_quiet (first | fail)
        go_wp2_with (first | (go_at_call 40; refine (r_clamp _ _ _ _).mono ?_; rintro e w' ⟨rfl, rfl⟩; rw [HC.out]))
        go_roundw
        case rel => exact ⟨4, by omega, rfl, _, rfl⟩
        case measure => simp [intOf]
    · rw [mixing_at]
      simp only [upto]
      go_wp2
      refine bodyPost_ret (v := .agg (cCells ⟨cr, cg, cb, cq⟩)) (by simp [results, Try.results41, go_sem]) rfl ⟨rfl, ?_⟩
      exact mixed_below _ _ _ _ _ _

end Go.Proofs.Ytafaafaclijfiaa
