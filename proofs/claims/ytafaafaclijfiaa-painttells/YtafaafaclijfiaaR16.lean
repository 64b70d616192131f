/- Contracts of mutoscoperef15.middle, .Way, .Color, .Map: for all paints what the plain arithmetic says; of the memory nothing that was there turns. Condition: that the colours are bytes, where they are mixed. -/
import Derived.Test.YtafaafaclijfiaaPaD
import Derived.Test.YtafaafaclijfiaaMake
import Derived.Test.YtafaafaclijfiaaQt
import Derived.Test.YtafaafaclijfiaaA
import Derived.Test.YtafaafaclijfiaaK
import Derived.Test.YtafaafaclijfiaaN
import Derived.Test.YtafaafaclijfiaaJ
import Derived.Test.YtafaafaclijfiaaHL
import Derived.Test.YtafaafaclijfiaaR3
import Derived.Test.YtafaafaclijfiaaTK5
import Derived.Laws.Rows
import Derived.Deep.DeepCutAuto
import Derived.BigRegion
import Derived.Deep.RegionWith
namespace Go.Proofs.Ytafaafaclijfiaa
open Go Go.RowKit
open M

theorem r15_middle (x : Int) (w : World) : Calls Try.prog 37 #[.int .i64 x] w fun e w' => e = .returned (.int .i64 (midX x)) ∧ w = w' := by
  obtain ⟨c, hc, c0, c1⟩ : ∃ c, clamp x (-256) 256 = c ∧ -256 ≤ c ∧ c ≤ 256 := ⟨_, rfl, by unfold clamp; split <;> (try split) <;> omega, by unfold clamp; split <;> (try split) <;> omega⟩
  have HC := Lib.hid hc
  unfold midX
  rw [hc]
  clear hc
  go_enter Try.func37, Try.ntmps37
  go_wp2_with (go_at_call 40; refine (r_clamp x _ _ _).mono ?_; rintro e w' ⟨rfl, rfl⟩; rw [HC.out])
  go_ret
  exact ⟨rfl, rfl⟩

set_option maxRecDepth 100000 in
set_option maxHeartbeats 4000000 in
theorem r15_way (c : Pa) (x y : Int) (w : World) : Calls Try.prog 16 #[.agg (paCells c), .int .i64 x, .int .i64 y] w fun e w' => e = .returned (.int .i64 (wayF c x y)) ∧ Below w.heap.size w w' := by
  obtain ⟨B, hB⟩ : ∃ B, w.heap.size = B := ⟨_, rfl⟩
  obtain ⟨W, hW⟩ : ∃ W, w.alloc (.cells (paCells c) 27) = W := ⟨_, rfl⟩
  have hk : Has W B (paCells c) 27 := by rw [← hW]; exact has_new hB
  have hb : Below w.heap.size w W := by rw [← hW]; exact (Below.refl _ _).alloc (Nat.le_refl _) _
  have HW := Lib.hid hW
  have HK := Lib.hid hk
  have HB := Lib.hid hb
  have RES : Hid (∀ t, rawW c.k (midX x - place c.p.x) (midX y - place c.p.y) (place c.q.x - place c.p.x) (place c.q.y - place c.p.y) c.r = t → wayF c x y = clamp t 0 65536) := Lib.hid (fun t h => by unfold wayF; rw [h])
  obtain ⟨R, hR⟩ : ∃ R, wayF c x y = R := ⟨_, rfl⟩
  rw [hR] at RES ⊢
  obtain ⟨k, a, b, ⟨px, py⟩, ⟨qx, qy⟩, r⟩ := c
  simp only at RES
  have MX := Lib.hid (fun w => r15_middle x w)
  have MY := Lib.hid (fun w => r15_middle y w)
  have ix := midX_in x
  have iy := midX_in y
  obtain ⟨mx, hmx⟩ : ∃ m, midX x = m := ⟨_, rfl⟩
  obtain ⟨my, hmy⟩ : ∃ m, midX y = m := ⟨_, rfl⟩
  rw [hmx] at MX ix RES
  rw [hmy] at MY iy RES
  have p0 := place_lo px
  have p1 := place_hi px
  have p2 := place_lo py
  have p3 := place_hi py
  have q0 := place_lo qx
  have q1 := place_hi qx
  have q2 := place_lo qy
  have q3 := place_hi qy
  have PX := Lib.hid (fun w => r_place px w)
  have PY := Lib.hid (fun w => r_place py w)
  have QX := Lib.hid (fun w => r_place qx w)
  have QY := Lib.hid (fun w => r_place qy w)
  obtain ⟨ux, hux⟩ : ∃ m, place px = m := ⟨_, rfl⟩
  obtain ⟨uy, huy⟩ : ∃ m, place py = m := ⟨_, rfl⟩
  obtain ⟨vx, hvx⟩ : ∃ m, place qx = m := ⟨_, rfl⟩
  obtain ⟨vy, hvy⟩ : ∃ m, place qy = m := ⟨_, rfl⟩
  rw [hux] at PX RES p0 p1
  rw [huy] at PY RES p2 p3
  rw [hvx] at QX RES q0 q1
  rw [hvy] at QY RES q2 q3
  clear hW hk hb hR hmx hmy hux huy hvx hvy
  go_enter Try.func16, Try.ntmps16
  go_upto_region 1 with fail
  rw [HW.out]
  clear hB
  have c9 := HK.out.cell 9 _ rfl
  have c10 := HK.out.cell 10 _ rfl
  go_quiet (first | (go_at_call_of 36 px; exact quiet1 (PX.out _)) | (go_at_call_of 36 py; exact quiet1 (PY.out _)))
  clear c9 c10
  obtain ⟨W1, hW1⟩ : ∃ V, W.drewN nq = V := ⟨_, rfl⟩
  have b1 : Below W.heap.size W W1 := by rw [← hW1]; exact below_drewN (Below.refl _ _) _
  have HB1 := Lib.hid (HB.out.trans (b1.mono HB.out.size))
  have HK1 := Lib.hid (HK.out.below b1 HK.out.lt)
  rw [hW1]
  clear hW1 b1
  go_upto_region 2 with fail
  have c11 := HK1.out.cell 11 _ rfl
  have c12 := HK1.out.cell 12 _ rfl
  go_quiet (first | (go_at_call_of 36 qx; exact quiet1 (QX.out _)) | (go_at_call_of 36 qy; exact quiet1 (QY.out _)))
  clear c11 c12
  obtain ⟨W2, hW2⟩ : ∃ V, W1.drewN nq = V := ⟨_, rfl⟩
  have b1 : Below W1.heap.size W1 W2 := by rw [← hW2]; exact below_drewN (Below.refl _ _) _
  have HB2 := Lib.hid (HB1.out.trans (b1.mono HB1.out.size))
  have HK2 := Lib.hid (HK1.out.below b1 HK1.out.lt)
  rw [hW2]
  clear hW2 b1
  go_upto_region 3 with fail
  go_wp2_with fail
  refine (MX.out _).mono ?_
  rintro e w' ⟨rfl, rfl⟩
  go_wp2_with fail
  refine (MY.out _).mono ?_
  rintro e w' ⟨rfl, rfl⟩
  have c0 := HK2.out.cell 0 _ rfl
  have c13 := HK2.out.cell 13 _ rfl
  go_upto_region 4 with fail
  obtain ⟨dx, hdx⟩ : ∃ d, mx - ux = d := ⟨_, rfl⟩
  obtain ⟨dy, hdy⟩ : ∃ d, my - uy = d := ⟨_, rfl⟩
  obtain ⟨ex, hex⟩ : ∃ d, vx - ux = d := ⟨_, rfl⟩
  obtain ⟨ey, hey⟩ : ∃ d, vy - uy = d := ⟨_, rfl⟩
  have DI : -1073741824 ≤ dx ∧ dx ≤ 1073741824 := by omega
  have DJ : -1073741824 ≤ dy ∧ dy ≤ 1073741824 := by omega
  have EI : -1073741824 ≤ ex ∧ ex ≤ 1073741824 := by omega
  have EJ : -1073741824 ≤ ey ∧ ey ≤ 1073741824 := by omega
  rw [hdx, hdy, hex, hey] at RES ⊢
  clear p0 p1 p2 p3 q0 q1 q2 q3 ix iy hdx hdy hex hey PX PY QX QY MX MY
  by_cases h1 : k = 1
  · subst h1
    obtain ⟨⟨l1, l2⟩, l3, l4⟩ := lin_in DI.1 DI.2 DJ.1 DJ.2 EI.1 EI.2 EJ.1 EJ.2
    obtain ⟨⟨m1, m2⟩, m3, m4⟩ := lin_in EI.1 EI.2 EJ.1 EJ.2 EI.1 EI.2 EJ.1 EJ.2
    rw [rawW_lin] at RES
    unfold linD at RES
    obtain ⟨s, hs⟩ : ∃ s, dx * ex + dy * ey = s := ⟨_, rfl⟩
    obtain ⟨t, ht⟩ : ∃ s, ex * ex + ey * ey = s := ⟨_, rfl⟩
    rw [hs, ht] at RES
    go_upto_region 8 with fail
    clear hs ht l1 l2 l3 l4 m1 m2 m3 m4
    obtain ⟨n, hn⟩ : ∃ n, s / 65536 = n := ⟨_, rfl⟩
    obtain ⟨m, hm⟩ : ∃ n, t / 65536 = n := ⟨_, rfl⟩
    rw [hn, hm] at RES ⊢
    clear hn hm
    by_cases hz : m = 0
    · subst hz
      go_wp2_with fail
      refine (r_clamp _ _ _ _).mono ?_
      rintro e w' ⟨rfl, rfl⟩
      go_wp2
      go_ret
      exact ⟨by rw [RES.out 0 (by simp)]; rfl, HB2.out⟩
    · go_wp2_with fail
      refine (r_div _ _ _).mono ?_
      rintro e w' ⟨rfl, nd, rfl⟩
      go_wp2_with fail
      refine (r_clamp _ _ _ _).mono ?_
      rintro e w' ⟨rfl, rfl⟩
      go_wp2
      go_ret
      exact ⟨by rw [RES.out _ (if_neg hz)]; rfl, below_drewN HB2.out _⟩
  · by_cases h2 : k = 2
    · subst h2
      rw [rawW_rad] at RES
      by_cases hr : 0 < r
      · go_upto_region 13 with fail
        go_quiet (first | (go_at_call 39; exact quiet1 (r_hyp _ _ _)) | (go_at_call 38; exact quietly (r_div _ _ _)))
        go_wp2_with fail
        refine (r_clamp _ _ _ _).mono ?_
        rintro e w' ⟨rfl, rfl⟩
        go_wp2
        go_ret
        exact ⟨by rw [RES.out _ (if_pos hr)]; rfl, below_drewN HB2.out _⟩
      · go_wp2_with fail
        refine (r_clamp _ _ _ _).mono ?_
        rintro e w' ⟨rfl, rfl⟩
        go_wp2
        go_ret
        exact ⟨by rw [RES.out _ (if_neg (by omega))]; rfl, HB2.out⟩
    · rw [rawW_no _ _ _ _ _ h1 h2] at RES
      go_wp2_with fail
      refine (r_clamp _ _ _ _).mono ?_
      rintro e w' ⟨rfl, rfl⟩
      go_wp2
      go_ret
      exact ⟨by rw [RES.out _ rfl]; rfl, HB2.out⟩

end Go.Proofs.Ytafaafaclijfiaa
