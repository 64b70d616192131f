/- The walk of mutoscopelaw6.HueTells: it returns true; of the memory nothing that was there turns. No condition. -/
import Derived.Test.YtmbbhhaoiicegaaS6
import Derived.Test.YtmbbhhaoiicegaaRI6
import Derived.Deep.RegionHeld3
import Derived.Deep.RegionWith
namespace Go.Proofs.Ytmbbhhaoiicegaa
open Go.RowKit
open M

attribute [local go_sem] eq_color alloc_drewN setCell_drewN shape_drewN

/-- A later world: what was in W is as it was. -/
structure Ht (W w' : World) : Prop where
  below : Below W.heap.size W w'
theorem Ht.call {W w' w'' : World} (h : Ht W w') (hq : Below w'.heap.size w' w'') : Ht W w'' := ⟨h.below.trans (hq.mono h.below.size)⟩
theorem Ht.drew {W w' : World} (h : Ht W w') : Ht W w'.drew := h.call (below_drew (Below.refl _ _))
theorem Ht.s {W w' : World} {g1 g2 g3 : Nat} {x y z : Cr} (h : Ht W w') (H0 : Has W g1 (cCells x) 24) (H1 : Has W g2 (cCells y) 24) (H2 : Has W g3 (cCells z) 27) :
    Ht W w' ∧ w'.cell? ⟨g1, 0, none⟩ = some (.int .u8 x.r) ∧ w'.cell? ⟨g1, 1, none⟩ = some (.int .u8 x.g) ∧ w'.cell? ⟨g1, 2, none⟩ = some (.int .u8 x.b) ∧ w'.cell? ⟨g1, 3, none⟩ = some (.int .u8 x.q) ∧
      w'.cell? ⟨g2, 0, none⟩ = some (.int .u8 y.r) ∧ w'.cell? ⟨g2, 1, none⟩ = some (.int .u8 y.g) ∧ w'.cell? ⟨g2, 2, none⟩ = some (.int .u8 y.b) ∧ w'.cell? ⟨g2, 3, none⟩ = some (.int .u8 y.q) ∧
      w'.cell? ⟨g3, 0, none⟩ = some (.int .u8 z.r) ∧ w'.cell? ⟨g3, 1, none⟩ = some (.int .u8 z.g) ∧ w'.cell? ⟨g3, 2, none⟩ = some (.int .u8 z.b) ∧ w'.cell? ⟨g3, 3, none⟩ = some (.int .u8 z.q) := by
  have K0 := H0.below h.below H0.lt
  have K1 := H1.below h.below H1.lt
  have K2 := H2.below h.below H2.lt
  exact ⟨h, K0.cell 0 _ rfl, K0.cell 1 _ rfl, K0.cell 2 _ rfl, K0.cell 3 _ rfl, K1.cell 0 _ rfl, K1.cell 1 _ rfl, K1.cell 2 _ rfl, K1.cell 3 _ rfl, K2.cell 0 _ rfl, K2.cell 1 _ rfl, K2.cell 2 _ rfl, K2.cell 3 _ rfl⟩

set_option maxHeartbeats 4000000 in
theorem hueTells_walk {w : World} (v0 : Value) (x : Cr) (v1 : Value) (y : Cr) (p : Int) (l : Value) (ks : List Ck) (t : Int) (v5 : Value) (z : Cr) (h0 : v0 = .agg (cCells x) ∧ x.Ok) (h1 : v1 = .agg (cCells y) ∧ y.Ok) (hA : Carg w l ks) (h5 : v5 = .agg (cCells z) ∧ z.Ok) :
    Calls Try.prog 4 #[v0, v1, .int .i64 p, l, .int .i64 t, v5] w fun r w' => r = .returned (.bool true) ∧ Below w.heap.size w w' := by
  obtain ⟨rfl, hx⟩ := h0
  obtain ⟨rfl, hy⟩ := h1
  obtain ⟨rfl, hz⟩ := h5
  have hB : Below w.heap.size w (((w.alloc (.cells (cCells x) 24)).alloc (.cells (cCells y) 24)).alloc (.cells (cCells z) 27)) := (((Below.refl _ _).alloc (Nat.le_refl _) _).alloc (by simp) _).alloc (by simp; omega) _
  have H0 : Has (((w.alloc (.cells (cCells x) 24)).alloc (.cells (cCells y) 24)).alloc (.cells (cCells z) 27)) w.heap.size (cCells x) 24 := (has_new0.alloc _).alloc _
  have H1 : Has (((w.alloc (.cells (cCells x) 24)).alloc (.cells (cCells y) 24)).alloc (.cells (cCells z) 27)) (w.heap.size + 1) (cCells y) 24 := (has_new (by simp)).alloc _
  have H2 : Has (((w.alloc (.cells (cCells x) 24)).alloc (.cells (cCells y) 24)).alloc (.cells (cCells z) 27)) (w.heap.size + 1 + 1) (cCells z) 27 := has_new (by simp)
  obtain ⟨W, hW⟩ : ∃ W, (((w.alloc (.cells (cCells x) 24)).alloc (.cells (cCells y) 24)).alloc (.cells (cCells z) 27)) = W := ⟨_, rfl⟩
  rw [hW] at hB H0 H1 H2
  obtain ⟨q, hq⟩ : ∃ q, bits .and .i64 p 65535 = q := ⟨_, rfl⟩
  obtain ⟨t9, ht9, t90, t91⟩ : ∃ x, bits .and .i64 t 255 = x ∧ 0 ≤ x ∧ x ≤ 255 := ⟨_, rfl, by rw [and_byte]; omega, by rw [and_byte]; omega⟩
  obtain ⟨c1, hc1⟩ : ∃ c, mix x y p = c := ⟨_, rfl⟩
  obtain ⟨c2, hc2⟩ : ∃ c, mix x y q = c := ⟨_, rfl⟩
  obtain ⟨lu, hlu⟩ : ∃ c, luma z = c := ⟨_, rfl⟩
  have M1 := Lib.hid (fun w => hc1 ▸ h_mix x y p w hx hy)
  have N1 := Lib.hid (fun w => hc1 ▸ r5_mix x y p w hx hy)
  have M2 := Lib.hid (fun w => hc2 ▸ h_mix x y q w hx hy)
  have N2 := Lib.hid (fun w => hc2 ▸ r5_mix x y q w hx hy)
  have L1 := Lib.hid (fun w => hlu ▸ h_luma z w hz)
  have L2 := Lib.hid (fun w => hlu ▸ r5_luma z w hz)
  have X0 := Lib.hid H0
  have X1 := Lib.hid H1
  have X2 := Lib.hid H2
  have HW := Lib.hid hW
  have HT0 : Hid (Ht W W) := Lib.hid ⟨Below.refl _ _⟩
  clear H0 H1 H2 hW hc1 hc2 hlu hx hy hz
  obtain ⟨xr, xg, xb, xq⟩ := x
  obtain ⟨yr, yg, yb, yq⟩ := y
  obtain ⟨zr, zg, zb, zq⟩ := z
  obtain ⟨ar, ag, ab, aq⟩ := c1
  obtain ⟨br, bg, bb, bq⟩ := c2
  rcases hA with ⟨rfl, ao, cap, rfl⟩ | ⟨g, o, len, cap, rfl, h0, h1, h2, hn, hr⟩
  · have hs : Csl W (.slice ao 0 cap) [] := Or.inl ⟨rfl, _, _, rfl⟩
    have ha : Carg W (.slice ao 0 cap) [] := Or.inl ⟨rfl, _, _, rfl⟩
    have HS := Lib.hid (fun w' (h : Ht W w') => hs.below h.below)
    have HA := Lib.hid (fun w' (h : Ht W w') => ha.below h.below)
    have HB := Lib.hid hB
    clear hs ha hB
    go_enter Try.func4, Try.ntmps4
    go_wp2_with fail
    rw [HW.out]
    go_region_held3 (fun w' => Ht W w' ∧ w'.cell? ⟨w.heap.size, 0, none⟩ = some (.int .u8 xr) ∧ w'.cell? ⟨w.heap.size, 1, none⟩ = some (.int .u8 xg) ∧ w'.cell? ⟨w.heap.size, 2, none⟩ = some (.int .u8 xb) ∧ w'.cell? ⟨w.heap.size, 3, none⟩ = some (.int .u8 xq) ∧ w'.cell? ⟨w.heap.size + 1, 0, none⟩ = some (.int .u8 yr) ∧ w'.cell? ⟨w.heap.size + 1, 1, none⟩ = some (.int .u8 yg) ∧ w'.cell? ⟨w.heap.size + 1, 2, none⟩ = some (.int .u8 yb) ∧ w'.cell? ⟨w.heap.size + 1, 3, none⟩ = some (.int .u8 yq) ∧ w'.cell? ⟨w.heap.size + 1 + 1, 0, none⟩ = some (.int .u8 zr) ∧ w'.cell? ⟨w.heap.size + 1 + 1, 1, none⟩ = some (.int .u8 zg) ∧ w'.cell? ⟨w.heap.size + 1 + 1, 2, none⟩ = some (.int .u8 zb) ∧ w'.cell? ⟨w.heap.size + 1 + 1, 3, none⟩ = some (.int .u8 zq)) ((go_split_ands; first | exact Ht.s HT0.out.drew X0.out X1.out X2.out | exact Ht.s (by assumption) X0.out X1.out X2.out))
      (first
        | (go_at_call_of 7 p; refine (M1.out _).mono ?_; rintro e wa ⟨rfl, hqa⟩; have hta := Ht.call HT0.out.drew hqa)
        | (go_at_call_of 8 p; refine (N1.out _).mono ?_; rintro e wb ⟨rfl, hqb⟩; have htb := Ht.call hta hqb)
        | (go_at_call_of 7 q; refine (M2.out _).mono ?_; rintro e wc ⟨rfl, hqc⟩; have htc := Ht.call htb hqc)
        | (go_at_call_of 8 q; refine (N2.out _).mono ?_; rintro e wd ⟨rfl, hqd⟩; have htd := Ht.call htc hqd)
        | (go_at_call 13; refine (l6_rising (HA.out _ htd)).mono ?_; rintro e we ⟨v, rs, A, rfl, hl, hrise, hown, hqe⟩; have hte := Ht.call htd hqe; have hSr := hown.sl (by have := hrise.few; omega) hrise.ok)
        | (go_at_call_of 11 v; refine (l6_same hSr _ ⟨xr, xg, xb, xq⟩).mono ?_; rintro e wf ⟨rfl, hqf⟩; have htf := Ht.call hte hqf)
        | (go_at_call_of 11 t; refine (l6_same (HS.out _ htf) _ ⟨yr, yg, yb, yq⟩).mono ?_; rintro e wg ⟨rfl, hqg⟩; have htg := Ht.call htf hqg)
        | (go_at_call 9; refine (L1.out _).mono ?_; rintro e wh ⟨rfl, hqh⟩; have hth := Ht.call htg hqh)
        | (go_at_call 10; refine (L2.out _).mono ?_; rintro e wi ⟨rfl, hqi⟩; have hti := Ht.call hth hqi)
        | (go_at_call 12; refine (known6 _).mono ?_; rintro e wj ⟨rfl, hqj⟩; have htj := Ht.call hti hqj))
    all_goals
      go_wp2
      go_ret
      exact ⟨rfl, HB.out.trans ((show Ht W _ by assumption).below.mono HB.out.size)⟩
  · have hrW := hr.below hB (hr.lt (by omega))
    by_cases h40 : len ≤ 40
    · obtain rfl : len = ks.length := by omega
      have hs : Csl W (.slice (some ⟨g, o, none⟩) ks.length cap) ks := Or.inr ⟨by omega, g, o, cap, rfl, hrW⟩
      have ha : Carg W (.slice (some ⟨g, o, none⟩) ks.length cap) ks := Or.inr ⟨g, o, ks.length, cap, rfl, h0, h1, h2, hn, hrW⟩
      have HS := Lib.hid (fun w' (h : Ht W w') => hs.below h.below)
      have HA := Lib.hid (fun w' (h : Ht W w') => ha.below h.below)
      have HB := Lib.hid hB
      have o1 : (ks.length : Int) ≤ 40 := by omega
      clear hs ha hB hn hr hrW
      go_enter Try.func4, Try.ntmps4
      go_wp2_with fail
      rw [HW.out]
      go_region_held3 (fun w' => Ht W w' ∧ w'.cell? ⟨w.heap.size, 0, none⟩ = some (.int .u8 xr) ∧ w'.cell? ⟨w.heap.size, 1, none⟩ = some (.int .u8 xg) ∧ w'.cell? ⟨w.heap.size, 2, none⟩ = some (.int .u8 xb) ∧ w'.cell? ⟨w.heap.size, 3, none⟩ = some (.int .u8 xq) ∧ w'.cell? ⟨w.heap.size + 1, 0, none⟩ = some (.int .u8 yr) ∧ w'.cell? ⟨w.heap.size + 1, 1, none⟩ = some (.int .u8 yg) ∧ w'.cell? ⟨w.heap.size + 1, 2, none⟩ = some (.int .u8 yb) ∧ w'.cell? ⟨w.heap.size + 1, 3, none⟩ = some (.int .u8 yq) ∧ w'.cell? ⟨w.heap.size + 1 + 1, 0, none⟩ = some (.int .u8 zr) ∧ w'.cell? ⟨w.heap.size + 1 + 1, 1, none⟩ = some (.int .u8 zg) ∧ w'.cell? ⟨w.heap.size + 1 + 1, 2, none⟩ = some (.int .u8 zb) ∧ w'.cell? ⟨w.heap.size + 1 + 1, 3, none⟩ = some (.int .u8 zq)) ((go_split_ands; first | exact Ht.s HT0.out.drew X0.out X1.out X2.out | exact Ht.s (by assumption) X0.out X1.out X2.out))
        (first
          | (go_at_call_of 7 p; refine (M1.out _).mono ?_; rintro e wa ⟨rfl, hqa⟩; have hta := Ht.call HT0.out.drew hqa)
          | (go_at_call_of 8 p; refine (N1.out _).mono ?_; rintro e wb ⟨rfl, hqb⟩; have htb := Ht.call hta hqb)
          | (go_at_call_of 7 q; refine (M2.out _).mono ?_; rintro e wc ⟨rfl, hqc⟩; have htc := Ht.call htb hqc)
          | (go_at_call_of 8 q; refine (N2.out _).mono ?_; rintro e wd ⟨rfl, hqd⟩; have htd := Ht.call htc hqd)
          | (go_at_call 13; refine (l6_rising (HA.out _ htd)).mono ?_; rintro e we ⟨v, rs, A, rfl, hl, hrise, hown, hqe⟩; have hte := Ht.call htd hqe; have hSr := hown.sl (by have := hrise.few; omega) hrise.ok)
          | (go_at_call_of 11 v; refine (l6_same hSr _ ⟨xr, xg, xb, xq⟩).mono ?_; rintro e wf ⟨rfl, hqf⟩; have htf := Ht.call hte hqf)
          | (go_at_call_of 11 t; refine (l6_same (HS.out _ htf) _ ⟨yr, yg, yb, yq⟩).mono ?_; rintro e wg ⟨rfl, hqg⟩; have htg := Ht.call htf hqg)
          | (go_at_call 9; refine (L1.out _).mono ?_; rintro e wh ⟨rfl, hqh⟩; have hth := Ht.call htg hqh)
          | (go_at_call 10; refine (L2.out _).mono ?_; rintro e wi ⟨rfl, hqi⟩; have hti := Ht.call hth hqi)
          | (go_at_call 12; refine (known6 _).mono ?_; rintro e wj ⟨rfl, hqj⟩; have htj := Ht.call hti hqj))
      all_goals
        go_wp2
        go_ret
        exact ⟨rfl, HB.out.trans ((show Ht W _ by assumption).below.mono HB.out.size)⟩
    · have hn' : ks.length = 40 := by omega
      have hs : Csl W (.slice (some ⟨g, o, none⟩) 40 cap) ks := Or.inr ⟨by omega, g, o, cap, by rw [hn'], hrW⟩
      have ha : Carg W (.slice (some ⟨g, o, none⟩) 40 cap) ks := Or.inr ⟨g, o, 40, cap, rfl, by omega, by omega, h2, by omega, hrW⟩
      have HS := Lib.hid (fun w' (h : Ht W w') => hs.below h.below)
      have HA := Lib.hid (fun w' (h : Ht W w') => ha.below h.below)
      have HB := Lib.hid hB
      have o1 : (40 : Int) < len := by omega
      have o2 : (40 : Int) ≤ cap := by omega
      clear hs ha hB hn hr hrW
      go_enter Try.func4, Try.ntmps4
      go_wp2_with fail
      rw [HW.out]
      go_region_held3 (fun w' => Ht W w' ∧ w'.cell? ⟨w.heap.size, 0, none⟩ = some (.int .u8 xr) ∧ w'.cell? ⟨w.heap.size, 1, none⟩ = some (.int .u8 xg) ∧ w'.cell? ⟨w.heap.size, 2, none⟩ = some (.int .u8 xb) ∧ w'.cell? ⟨w.heap.size, 3, none⟩ = some (.int .u8 xq) ∧ w'.cell? ⟨w.heap.size + 1, 0, none⟩ = some (.int .u8 yr) ∧ w'.cell? ⟨w.heap.size + 1, 1, none⟩ = some (.int .u8 yg) ∧ w'.cell? ⟨w.heap.size + 1, 2, none⟩ = some (.int .u8 yb) ∧ w'.cell? ⟨w.heap.size + 1, 3, none⟩ = some (.int .u8 yq) ∧ w'.cell? ⟨w.heap.size + 1 + 1, 0, none⟩ = some (.int .u8 zr) ∧ w'.cell? ⟨w.heap.size + 1 + 1, 1, none⟩ = some (.int .u8 zg) ∧ w'.cell? ⟨w.heap.size + 1 + 1, 2, none⟩ = some (.int .u8 zb) ∧ w'.cell? ⟨w.heap.size + 1 + 1, 3, none⟩ = some (.int .u8 zq)) ((go_split_ands; first | exact Ht.s HT0.out.drew X0.out X1.out X2.out | exact Ht.s (by assumption) X0.out X1.out X2.out))
        (first
          | (go_at_call_of 7 p; refine (M1.out _).mono ?_; rintro e wa ⟨rfl, hqa⟩; have hta := Ht.call HT0.out.drew hqa)
          | (go_at_call_of 8 p; refine (N1.out _).mono ?_; rintro e wb ⟨rfl, hqb⟩; have htb := Ht.call hta hqb)
          | (go_at_call_of 7 q; refine (M2.out _).mono ?_; rintro e wc ⟨rfl, hqc⟩; have htc := Ht.call htb hqc)
          | (go_at_call_of 8 q; refine (N2.out _).mono ?_; rintro e wd ⟨rfl, hqd⟩; have htd := Ht.call htc hqd)
          | (go_at_call 13; refine (l6_rising (HA.out _ htd)).mono ?_; rintro e we ⟨v, rs, A, rfl, hl, hrise, hown, hqe⟩; have hte := Ht.call htd hqe; have hSr := hown.sl (by have := hrise.few; omega) hrise.ok)
          | (go_at_call_of 11 v; refine (l6_same hSr _ ⟨xr, xg, xb, xq⟩).mono ?_; rintro e wf ⟨rfl, hqf⟩; have htf := Ht.call hte hqf)
          | (go_at_call_of 11 t; refine (l6_same (HS.out _ htf) _ ⟨yr, yg, yb, yq⟩).mono ?_; rintro e wg ⟨rfl, hqg⟩; have htg := Ht.call htf hqg)
          | (go_at_call 9; refine (L1.out _).mono ?_; rintro e wh ⟨rfl, hqh⟩; have hth := Ht.call htg hqh)
          | (go_at_call 10; refine (L2.out _).mono ?_; rintro e wi ⟨rfl, hqi⟩; have hti := Ht.call hth hqi)
          | (go_at_call 12; refine (known6 _).mono ?_; rintro e wj ⟨rfl, hqj⟩; have htj := Ht.call hti hqj))
      all_goals
        go_wp2
        go_ret
        exact ⟨rfl, HB.out.trans ((show Ht W _ by assumption).below.mono HB.out.size)⟩

end Go.Proofs.Ytmbbhhaoiicegaa
