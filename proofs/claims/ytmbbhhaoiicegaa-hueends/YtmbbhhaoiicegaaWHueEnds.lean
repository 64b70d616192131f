/- The walk of mutoscopelaw6.HueEnds: it returns true; of the memory nothing that was there turns. No condition. -/
import Derived.Test.YtmbbhhaoiicegaaCE6
import Derived.Test.YtmbbhhaoiicegaaS6
import Derived.Deep.RegionWith
namespace Go.Proofs.Ytmbbhhaoiicegaa
open Go.RowKit
open M

attribute [local go_sem] eq_color alloc_drewN setCell_drewN shape_drewN

theorem kn6_luma0 : luma ⟨0, 0, 0, 0⟩ = 0 := by decide

set_option maxHeartbeats 4000000 in
theorem hueEnds_walk {w : World} (l : Value) (ks : List Ck) (t : Int) (hA : Carg w l ks) :
    Calls Try.prog 6 #[l, .int .i64 t] w fun r w' => r = .returned (.bool true) ∧ Below w.heap.size w w' := by
  have HA := Lib.hid hA
  obtain ⟨B, hB⟩ : ∃ B, w.heap.size = B := ⟨_, rfl⟩
  rw [hB]
  have HB0 := Lib.hid hB
  clear hA hB
  go_enter Try.func6, Try.ntmps6
  go_wp2_with fail
  refine (l6_rising HA.out).mono ?_
  rintro e w1 ⟨v, rs, A, rfl, hl, hrise, hown, hb⟩
  rw [HB0.out] at hown hb
  clear HA hl
  by_cases h0 : rs.length = 0
  · obtain rfl : rs = [] := List.eq_nil_of_length_eq_zero h0
    have hsl := hown.sl (by simp) (by simp)
    obtain ⟨ao, cap, rfl⟩ : ∃ ao cap, v = .slice ao 0 cap := by
      rcases hsl with ⟨_, h⟩ | ⟨h, _⟩
      · exact h
      · simp at h
    have SL := Lib.hid hsl
    have HB := Lib.hid hb
    clear hsl hb hown hrise h0
    go_wp2
    go_loop [6, 12] (fun _ i => i = .int .i64 0) (fun _ _ => 0)
    case atStart => rfl
    case round =>
      subst hrel
      go_wp2
      go_loop [7, 33] (fun _ i => i = .int .i64 0) (fun _ _ => 0)
      case atStart => rfl
      case round =>
        subst hrel
        have r1 := fun z : Later w1 => h_right (SL.out.below z.below)
        rw [show right (bares []) = true from rfl] at r1
        have R1 := Lib.hid r1
        clear r1
        have L0 := Lib.hid (fun w => kn6_luma0 ▸ h_luma ⟨0, 0, 0, 0⟩ w (ok_byte rfl))
        go_wp2_with fail
        refine wp_region_class (C := fun w' => ∃ z : Later w1, w' = z.to) (by kernel_rfl) (by kernel_rfl) ⟨⟨_, below_drew (Below.refl _ _)⟩, rfl⟩ ?_
        repeat (go_big_quiet_step (first | fail))
        refine wpQuiet_nil ?_
        rintro _ ⟨z, rfl⟩
        go_wp2_with fail
        refine (R1.out z).mono ?_
        rintro e w5 ⟨rfl, hq5⟩
        have HB5 := Lib.hid ((HB.out.trans (z.below.mono (by have := HB.out.size; have := HB0.out; omega))).trans (hq5.mono (by have := HB.out.size; have := z.below.size; have := HB0.out; omega)))
        clear hq5
        go_wp2_with fail
        refine (L0.out _).mono ?_
        rintro e w6 ⟨rfl, hq6⟩
        have HB6 := Lib.hid (HB5.out.trans (hq6.mono (by have := HB5.out.size; have := HB0.out; omega)))
        clear hq6 HB5
        go_wp2_with fail
        refine (known6 _).mono ?_
        rintro e w7 ⟨rfl, hq7⟩
        have HB7 := Lib.hid (HB6.out.trans (hq7.mono (by have := HB6.out.size; have := HB0.out; omega)))
        clear hq7 HB6
        go_wp2
        go_ret
        exact ⟨rfl, HB7.out⟩
  · obtain ⟨g, cap, rfl⟩ := hown.shape (by omega)
    obtain ⟨N, hN⟩ : ∃ N, rs.length = N := ⟨_, rfl⟩
    have hN40 : N ≤ 40 := by have := hrise.few; omega
    have hN0 : 0 < N := by omega
    rw [hN] at hown ⊢
    clear h0
    have R0 : Hid (∃ (qs : List Ck), qs.length = N ∧ Crise qs A ∧ (∀ j, j < 0 → (ck qs j).h ≤ 1) ∧ Cown w1 B (.slice (some ⟨g, 0, none⟩) N cap) qs ∧ Below B w w1) := Lib.hid ⟨rs, hN, hrise, fun j hj => by omega, hown, hb⟩
    clear hN hrise hown hb
    go_wp2
    go_loopw [6, 12] (fun _ i wr => ∃ (n : Nat), n ≤ N ∧ i = .int .i64 n ∧ ∃ (qs : List Ck), qs.length = N ∧ Crise qs A ∧ (∀ j, j < n → (ck qs j).h ≤ 1) ∧ Cown wr B (.slice (some ⟨g, 0, none⟩) N cap) qs ∧ Below B w wr) (fun _ i _ => N - (intOf i).toNat)
    case atStart => exact ⟨0, by omega, rfl, R0.out⟩
    case round =>
      clear R0
      obtain ⟨n, hn, rfl, qs, hq, hrise, hst, hown, hb⟩ := hrel
      by_cases hlt : n < N
      · have hr := hown.row (by omega) hrise.ok (by omega)
        have c5 := hr.c5 n (by omega)
        have c6 := hr.c6 n (by omega)
        have c7 := hr.c7 n (by omega)
        have c8 := hr.c8 n (by omega)
        have c9 := hr.c9 n (by omega)
        rw [Nat.zero_add] at c5 c6 c7 c8 c9
        have fz := hown.fro hq
        have o1 : (n : Int) < N := by omega
        clear hr
        by_cases h2 : (ck qs n).h = 2
        · have R := Lib.hid (cends_put hq hlt hrise hst hown hb)
          clear hq hrise hst hown hb
          go_wp2
          go_roundw
          case rel => exact ⟨n + 1, by omega, by go_num, R.out⟩
          case measure => simp [intOf]; omega
        · have R : Hid (∃ qs : List Ck, qs.length = N ∧ Crise qs A ∧ (∀ j, j < n + 1 → (ck qs j).h ≤ 1) ∧ Cown wr B (.slice (some ⟨g, 0, none⟩) N cap) qs ∧ Below B w wr) := by
            refine Lib.hid ⟨qs, hq, hrise, fun j hj => ?_, hown, hb⟩
            by_cases e : n = j
            · subst e; have := hrise.how n (by omega); omega
            · exact hst j (by omega)
          clear hq hrise hst hown hb
          go_wp2
          go_roundw
          case rel => exact ⟨n + 1, by omega, by go_num, R.out⟩
          case measure => simp [intOf]; omega
      · obtain rfl : n = N := by omega
        have hsl := hown.sl (by omega) hrise.ok
        have hr := hown.row (by omega) hrise.ok (by omega)
        rename World => W2
        have SL := Lib.hid hsl
        have RW := Lib.hid hr
        have RI := Lib.hid hrise
        have ST := Lib.hid hst
        have HQ := Lib.hid hq
        have HB := Lib.hid hb
        clear hsl hr hrise hst hq hb hown
        go_wp2
        go_loopw [7, 33] (fun _ i wr => ∃ (m : Nat), m ≤ n ∧ i = .int .i64 m ∧ Below W2.heap.size W2 wr) (fun _ i _ => n - (intOf i).toNat)
        case atStart => exact ⟨0, by omega, rfl, Below.refl _ _⟩
        case round =>
          obtain ⟨m, hm, rfl, hb2⟩ := hrel
          by_cases hlm : m < n
          · have s2 := SL.out.below hb2
            have r2 := RW.out.below hb2 (RW.out.lt (by have := HQ.out; omega))
            have c0 := fun (z : Later wr) => (r2.later (by have := HQ.out; omega) z).c0 m (by have := HQ.out; omega)
            have c1 := fun (z : Later wr) => (r2.later (by have := HQ.out; omega) z).c1 m (by have := HQ.out; omega)
            have c2 := fun (z : Later wr) => (r2.later (by have := HQ.out; omega) z).c2 m (by have := HQ.out; omega)
            have c3 := fun (z : Later wr) => (r2.later (by have := HQ.out; omega) z).c3 m (by have := HQ.out; omega)
            have c4 := fun (z : Later wr) => (r2.later (by have := HQ.out; omega) z).c4 m (by have := HQ.out; omega)
            have m1 := fun (z : Later wr) => h_at (s2.below z.below) (ck qs m).t ⟨0, 0, 0, 0⟩
            rw [atc_key RI.out (by have := HQ.out; omega)] at m1
            have M1 := Lib.hid m1
            have HB2 := Lib.hid hb2
            have o1 : (m : Int) < n := by omega
            rw [Nat.zero_add] at c0 c1 c2 c3 c4
            clear s2 r2 m1 hb2
            go_wp2_with fail
            refine wp_region_class (C := fun w' => ∃ z : Later wr, w' = z.to) (by kernel_rfl) (by kernel_rfl) ⟨⟨_, below_drew (Below.refl _ _)⟩, rfl⟩ ?_
            repeat (go_big_quiet_step (first | (go_at_call 15; exact Later.calls (M1.out _))))
            refine wpQuiet_nil ?_
            rintro _ ⟨z, rfl⟩
            go_wp2
            go_roundw
            case rel => exact ⟨m + 1, by omega, by go_num, HB2.out.trans (z.below.mono HB2.out.size)⟩
            case measure => simp [intOf]; omega
          · obtain ⟨a, ha, a0, a1⟩ : ∃ a, bits .and .i64 t 255 = a ∧ 0 ≤ a ∧ a ≤ 255 := ⟨_, rfl, by rw [and_byte]; omega, by rw [and_byte]; omega⟩
            have s2 := SL.out.below hb2
            have r2 := RW.out.below hb2 (RW.out.lt (by have := HQ.out; omega))
            have HB2 := Lib.hid (HB.out.trans (hb2.mono (by have := HB.out.size; have := HB0.out; omega)))
            obtain rfl : m = n := by omega
            obtain ⟨e, he⟩ : ∃ e, m = e + 1 := ⟨m - 1, by omega⟩
            have c0 := fun (z : Later wr) => (r2.later (by have := HQ.out; omega) z).c0 0 (by have := HQ.out; omega)
            have c1 := fun (z : Later wr) => (r2.later (by have := HQ.out; omega) z).c1 0 (by have := HQ.out; omega)
            have c2 := fun (z : Later wr) => (r2.later (by have := HQ.out; omega) z).c2 0 (by have := HQ.out; omega)
            have c3 := fun (z : Later wr) => (r2.later (by have := HQ.out; omega) z).c3 0 (by have := HQ.out; omega)
            have c4 := fun (z : Later wr) => (r2.later (by have := HQ.out; omega) z).c4 0 (by have := HQ.out; omega)
            have d0 := fun (z : Later wr) => (r2.later (by have := HQ.out; omega) z).c0 e (by have := HQ.out; omega)
            have d1 := fun (z : Later wr) => (r2.later (by have := HQ.out; omega) z).c1 e (by have := HQ.out; omega)
            have d2 := fun (z : Later wr) => (r2.later (by have := HQ.out; omega) z).c2 e (by have := HQ.out; omega)
            have d3 := fun (z : Later wr) => (r2.later (by have := HQ.out; omega) z).c3 e (by have := HQ.out; omega)
            have d4 := fun (z : Later wr) => (r2.later (by have := HQ.out; omega) z).c4 e (by have := HQ.out; omega)
            simp only [Nat.zero_mul, Nat.zero_add] at c0 c1 c2 c3 c4 d0 d1 d2 d3 d4
            have k0 := RI.out.tick 0 (by have := HQ.out; omega)
            have k1 := RI.out.tick e (by have := HQ.out; omega)
            have kA : A ≤ 400 := by have := RI.out.top; have := RI.out.few; omega
            have m1 := fun (z : Later wr) => h_at (s2.below z.below) ((ck qs 0).t - 1 - a) ⟨0, 0, 0, 0⟩
            rw [atc_ahead RI.out (by have := HQ.out; omega) (by omega)] at m1
            have m2 := fun (z : Later wr) => h_at (s2.below z.below) ((ck qs e).t + 1 + a) ⟨0, 0, 0, 0⟩
            rw [atc_behind (m := e) (by have := HQ.out; omega) (by omega)] at m2
            have m3 := fun (z : Later wr) => h_right (s2.below z.below)
            rw [crise_right RI.out (fun j hj => ST.out j (by have := HQ.out; omega)), HQ.out] at m3
            obtain ⟨X0, hX0⟩ : ∃ x, (ck qs 0).t = x := ⟨_, rfl⟩
            obtain ⟨X1, hX1⟩ : ∃ x, (ck qs e).t = x := ⟨_, rfl⟩
            rw [hX0] at m1 c0 k0
            rw [hX1] at m2 d0 k1
            have M1 := Lib.hid m1
            have M2 := Lib.hid m2
            have M3 := Lib.hid m3
            have L0 := Lib.hid (fun w => kn6_luma0 ▸ h_luma ⟨0, 0, 0, 0⟩ w (ok_byte rfl))
            have o1 : (0 : Int) < m := by omega
            have o2 : (m : Int) - 1 = (e : Int) := by omega
            have o3 : (e : Int) < m := by omega
            clear s2 r2 m1 m2 m3 hb2 he hX0 hX1
            go_wp2_with fail
            refine wp_region_class (C := fun w' => ∃ z : Later wr, w' = z.to) (by kernel_rfl) (by kernel_rfl) ⟨⟨_, below_drew (Below.refl _ _)⟩, rfl⟩ ?_
            repeat (go_big_quiet_step (first | (go_at_call_of 15 X0; exact Later.calls (M1.out _)) | (go_at_call_of 15 X1; exact Later.calls (M2.out _))))
            refine wpQuiet_nil ?_
            rintro _ ⟨z, rfl⟩
            clear c0 c1 c2 c3 c4 d0 d1 d2 d3 d4 M1 M2 k0 k1
            by_cases h32 : m ≤ 32
            · have o4 : (m : Int) ≤ 32 := by omega
              have M4 := Lib.hid (fun z => (decide_eq_true o4) ▸ M3.out z)
              go_wp2_with fail
              refine (M4.out z).mono ?_
              rintro e w5 ⟨rfl, hq5⟩
              have HB5 := Lib.hid ((HB2.out.trans (z.below.mono (by have := HB2.out.size; have := HB0.out; omega))).trans (hq5.mono (by have := HB2.out.size; have := z.below.size; have := HB0.out; omega)))
              clear hq5
              go_wp2_with fail
              refine (L0.out _).mono ?_
              rintro e w6 ⟨rfl, hq6⟩
              have HB6 := Lib.hid (HB5.out.trans (hq6.mono (by have := HB5.out.size; have := HB0.out; omega)))
              clear hq6 HB5
              go_wp2_with fail
              refine (known6 _).mono ?_
              rintro e w7 ⟨rfl, hq7⟩
              have HB7 := Lib.hid (HB6.out.trans (hq7.mono (by have := HB6.out.size; have := HB0.out; omega)))
              clear hq7 HB6
              go_wp2
              go_ret
              exact ⟨rfl, HB7.out⟩
            · have o3' : ¬ (m : Int) ≤ 32 := by omega
              have M4 := Lib.hid (fun z => (decide_eq_false o3') ▸ M3.out z)
              clear o3'
              have o4 : (32 : Int) < m := by omega
              go_wp2_with fail
              refine (M4.out z).mono ?_
              rintro e w5 ⟨rfl, hq5⟩
              have HB5 := Lib.hid ((HB2.out.trans (z.below.mono (by have := HB2.out.size; have := HB0.out; omega))).trans (hq5.mono (by have := HB2.out.size; have := z.below.size; have := HB0.out; omega)))
              clear hq5
              go_wp2_with fail
              refine (L0.out _).mono ?_
              rintro e w6 ⟨rfl, hq6⟩
              have HB6 := Lib.hid (HB5.out.trans (hq6.mono (by have := HB5.out.size; have := HB0.out; omega)))
              clear hq6 HB5
              go_wp2_with fail
              refine (known6 _).mono ?_
              rintro e w7 ⟨rfl, hq7⟩
              have HB7 := Lib.hid (HB6.out.trans (hq7.mono (by have := HB6.out.size; have := HB0.out; omega)))
              clear hq7 HB6
              go_wp2
              go_ret
              exact ⟨by rw [decide_eq_false (show ¬ (m : Int) ≤ 32 by omega)]; rfl, HB7.out⟩

end Go.Proofs.Ytmbbhhaoiicegaa
