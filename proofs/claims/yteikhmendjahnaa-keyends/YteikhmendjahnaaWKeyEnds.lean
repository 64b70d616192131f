/- The walk of mutoscopelaw5.KeyEnds: it returns true; of the memory nothing that was there turns. No condition. -/
import Derived.Test.YteikhmendjahnaaKE5
import Derived.Test.YteikhmendjahnaaL5
namespace Go.Proofs.Yteikhmendjahnaa
open Go.RowKit
open M

theorem ends_put {w wr : World} {B g cap N n : Nat} {qs : List Ky} {A : Int} (hq : qs.length = N) (hn : n < N) (hrise : Rise qs A) (hst : ∀ j, j < n → (ky qs j).h ≤ 1) (hown : Own wr B (.slice (some ⟨g, 0, none⟩) N cap) qs) (hb : Below B w wr) :
    ∃ qs : List Ky, qs.length = N ∧ Rise qs A ∧ (∀ j, j < n + 1 → (ky qs j).h ≤ 1) ∧
      Own (((((wr.setCell ⟨g, n * 7 + 2, none⟩ (.int .i64 1)).setCell ⟨g, n * 7 + 3, none⟩ (.int .i64 0)).setCell ⟨g, n * 7 + 3 + 1, none⟩ (.int .i64 0)).setCell ⟨g, n * 7 + 3 + 2, none⟩ (.int .i64 0)).setCell ⟨g, n * 7 + 3 + 3, none⟩ (.int .i64 0)) B (.slice (some ⟨g, 0, none⟩) N cap) qs ∧
      Below B w (((((wr.setCell ⟨g, n * 7 + 2, none⟩ (.int .i64 1)).setCell ⟨g, n * 7 + 3, none⟩ (.int .i64 0)).setCell ⟨g, n * 7 + 3 + 1, none⟩ (.int .i64 0)).setCell ⟨g, n * 7 + 3 + 2, none⟩ (.int .i64 0)).setCell ⟨g, n * 7 + 3 + 3, none⟩ (.int .i64 0)) := by
  have hg := hown.base.1
  have h0 : Own wr B (.slice (some ⟨g, 0, none⟩) N cap) (qs.set n (ky qs n)) := by rw [set_self]; exact hown
  have h1 := h0.put' hq hn 2 _ (by decide) rfl 1
  have h2 := h1.put' hq hn 3 _ (by decide) rfl 0
  have h3 := h2.put' hq hn 4 (n * 7 + 3 + 1) (by decide) (by omega) 0
  have h4 := h3.put' hq hn 5 (n * 7 + 3 + 2) (by decide) (by omega) 0
  have h5 := h4.put' hq hn 6 (n * 7 + 3 + 3) (by decide) (by omega) 0
  refine ⟨qs.set n ⟨(ky qs n).t, (ky qs n).v, 1, 0, 0, 0, 0⟩, by simpa using hq, hrise.set rfl (hrise.val n (by omega)) ⟨by simp only; omega, by simp only; omega⟩, ?_, h5, ((((hb.setCell hg _).setCell hg _).setCell hg _).setCell hg _).setCell hg _⟩
  intro j hj
  by_cases e : n = j
  · subst e; rw [ky_set_eq (by omega)]; simp only; omega
  · rw [ky_set_ne e]; exact hst j (by omega)

set_option maxHeartbeats 4000000 in
theorem keyEnds_walk {w : World} (l : Value) (ks : List Ky) (t : Int) (hA : Arg w l ks) :
    Calls Try.prog 5 #[l, .int .i64 t] w fun r w' => r = .returned (.bool true) ∧ Below w.heap.size w w' := by
  have HA := Lib.hid hA
  obtain ⟨B, hB⟩ : ∃ B, w.heap.size = B := ⟨_, rfl⟩
  rw [hB]
  have HB0 := Lib.hid hB
  clear hA hB
  go_enter Try.func5, Try.ntmps5
  go_wp2_with fail
  refine (l5_rising HA.out).mono ?_
  rintro e w1 ⟨v, rs, A, rfl, hl, hrise, hown, hb⟩
  rw [HB0.out] at hown hb
  clear HA hl
  by_cases h0 : rs.length = 0
  · obtain rfl : rs = [] := List.eq_nil_of_length_eq_zero h0
    have hsl := hown.sl (by simp)
    obtain ⟨ao, cap, rfl⟩ : ∃ ao cap, v = .slice ao 0 cap := by
      rcases hsl with ⟨_, h⟩ | ⟨h, _⟩
      · exact h
      · simp at h
    have SL := Lib.hid hsl
    have HB := Lib.hid hb
    clear hsl hb hown hrise h0
    go_wp2
    go_loop [6, 15] (fun _ i => i = .int .i64 0) (fun _ _ => 0)
    case atStart => rfl
    case round =>
      subst hrel
      go_wp2
      go_loop [7, 36] (fun _ i => i = .int .i64 0) (fun _ _ => 0)
      case atStart => rfl
      case round =>
        subst hrel
        go_wp2_with fail
        refine (k_at SL.out t t).mono ?_
        rw [show atk [] t t = t from rfl]
        rintro e w5 ⟨rfl, hq5⟩
        have HB5 := Lib.hid (HB.out.trans (hq5.mono (by have := HB.out.size; have := HB0.out; omega)))
        clear hq5 HB
        go_wp2_with fail
        refine (known5 _).mono ?_
        rintro e w6 ⟨rfl, hq6⟩
        have HB6 := Lib.hid (HB5.out.trans (hq6.mono (by have := HB5.out.size; have := HB0.out; omega)))
        clear hq6 HB5
        go_wp2
        go_ret
        exact ⟨rfl, HB6.out⟩
  · obtain ⟨g, cap, rfl⟩ := hown.shape (by omega)
    obtain ⟨N, hN⟩ : ∃ N, rs.length = N := ⟨_, rfl⟩
    have hN40 : N ≤ 40 := by have := hrise.few; omega
    have hN0 : 0 < N := by omega
    rw [hN] at hown ⊢
    clear h0
    have R0 : Hid (∃ (qs : List Ky), qs.length = N ∧ Rise qs A ∧ (∀ j, j < 0 → (ky qs j).h ≤ 1) ∧ Own w1 B (.slice (some ⟨g, 0, none⟩) N cap) qs ∧ Below B w w1) := Lib.hid ⟨rs, hN, hrise, fun j hj => by omega, hown, hb⟩
    clear hN hrise hown hb
    go_wp2
    go_loopw [6, 15] (fun _ i wr => ∃ (n : Nat), n ≤ N ∧ i = .int .i64 n ∧ ∃ (qs : List Ky), qs.length = N ∧ Rise qs A ∧ (∀ j, j < n → (ky qs j).h ≤ 1) ∧ Own wr B (.slice (some ⟨g, 0, none⟩) N cap) qs ∧ Below B w wr) (fun _ i _ => N - (intOf i).toNat)
    case atStart => exact ⟨0, by omega, rfl, R0.out⟩
    case round =>
      clear R0
      obtain ⟨n, hn, rfl, qs, hq, hrise, hst, hown, hb⟩ := hrel
      by_cases hlt : n < N
      · have hr := hown.row (by omega) (by omega)
        have c2 := hr.c2 n (by omega)
        have c3 := hr.c3 n (by omega)
        have c4 := hr.c4 n (by omega)
        have c5 := hr.c5 n (by omega)
        have c6 := hr.c6 n (by omega)
        rw [Nat.zero_add] at c2 c3 c4 c5 c6
        have fz := hown.fro hq
        have o1 : (n : Int) < N := by omega
        clear hr
        by_cases h2 : (ky qs n).h = 2
        · have R := Lib.hid (ends_put hq hlt hrise hst hown hb)
          clear hq hrise hst hown hb
          go_wp2
          go_roundw
          case rel => exact ⟨n + 1, by omega, by go_num, R.out⟩
          case measure => simp [intOf]; omega
        · have R : Hid (∃ qs : List Ky, qs.length = N ∧ Rise qs A ∧ (∀ j, j < n + 1 → (ky qs j).h ≤ 1) ∧ Own wr B (.slice (some ⟨g, 0, none⟩) N cap) qs ∧ Below B w wr) := by
            refine Lib.hid ⟨qs, hq, hrise, fun j hj => ?_, hown, hb⟩
            by_cases e : n = j
            · subst e; have := hrise.how n (by omega); omega
            · exact hst j (by omega)
          clear hq hrise hst hown hb
          go_wp2
          go_roundw
          case rel => exact ⟨n + 1, by omega, by go_num, R.out⟩
          case measure => simp [intOf]; omega
      · obtain rfl : n = N := by omega
        have hsl := hown.sl (by omega)
        have hr := hown.row (by omega) (by omega)
        rename World => W2
        have SL := Lib.hid hsl
        have RW := Lib.hid hr
        have RI := Lib.hid hrise
        have ST := Lib.hid hst
        have HQ := Lib.hid hq
        have HB := Lib.hid hb
        clear hsl hr hrise hst hq hb hown
        go_wp2
        go_loopw [7, 36] (fun _ i wr => ∃ (m : Nat), m ≤ n ∧ i = .int .i64 m ∧ Below W2.heap.size W2 wr) (fun _ i _ => n - (intOf i).toNat)
        case atStart => exact ⟨0, by omega, rfl, Below.refl _ _⟩
        case round =>
          obtain ⟨m, hm, rfl, hb2⟩ := hrel
          by_cases hlm : m < n
          · have s2 := SL.out.below hb2
            have r2 := RW.out.below hb2 (RW.out.lt (by have := HQ.out; omega))
            have c0 := fun (z : Later wr) => (r2.later (by have := HQ.out; omega) z).c0 m (by have := HQ.out; omega)
            have c1 := fun (z : Later wr) => (r2.later (by have := HQ.out; omega) z).c1 m (by have := HQ.out; omega)
            have m1 := fun (z : Later wr) => k_at (s2.below z.below) (ky qs m).t 0
            have m2 := fun (z : Later wr) => k_find (s2.below z.below) (ky qs m).t
            rw [atk_key RI.out (by have := HQ.out; omega)] at m1
            rw [find_key RI.out (by have := HQ.out; omega)] at m2
            have M1 := Lib.hid m1
            have M2 := Lib.hid m2
            have HB2 := Lib.hid hb2
            have o1 : (m : Int) < n := by omega
            rw [Nat.zero_add] at c0 c1
            clear s2 r2 m1 m2 hb2
            go_wp2_with fail
            refine wp_region_class (C := fun w' => ∃ z : Later wr, w' = z.to) (by kernel_rfl) (by kernel_rfl) ⟨⟨_, below_drew (Below.refl _ _)⟩, rfl⟩ ?_
            repeat (go_big_quiet_step (first | (go_at_call 13; exact Later.calls (M1.out _)) | (go_at_call 14; exact Later.calls (below_of (M2.out _)))))
            refine wpQuiet_nil ?_
            rintro _ ⟨z, rfl⟩
            go_wp2
            go_roundw
            case rel => exact ⟨m + 1, by omega, by go_num, HB2.out.trans (z.below.mono HB2.out.size)⟩
            case measure => simp [intOf]; omega
          · obtain ⟨a, ha⟩ : ∃ a, bits .and .i64 t 255 = a := ⟨_, rfl⟩
            have s2 := SL.out.below hb2
            have r2 := RW.out.below hb2 (RW.out.lt (by have := HQ.out; omega))
            have HB2 := Lib.hid (HB.out.trans (hb2.mono (by have := HB.out.size; have := HB0.out; omega)))
            have o0 : ¬ (n : Int) = 0 := by omega
            have o00 : ¬ n = 0 := by omega
            obtain rfl : m = n := by omega
            have S2 := Lib.hid s2
            clear s2 hb2
            rcases atk_cases qs a 0 (by have := HQ.out; omega) with ⟨e1, e2⟩ | ⟨i, e1, hi, e2⟩ | ⟨i, e1, hi, e2⟩
            · go_wp2_with fail
              refine (k_find S2.out a).mono ?_
              rw [e1]
              rintro e _ ⟨rfl, rfl⟩
              go_wp2_with fail
              refine (k_at S2.out a 0).mono ?_
              rw [e2]
              rintro e w5 ⟨rfl, hq5⟩
              have r5 := r2.below hq5 (r2.lt (by have := HQ.out; omega))
              have HB5 := Lib.hid (HB2.out.trans (hq5.mono (by have := HB2.out.size; have := HB0.out; omega)))
              have c1 := r5.c1 0 (by have := HQ.out; omega)
              simp only [Nat.zero_mul, Nat.zero_add] at c1
              have o2 : (0 : Int) < m := by omega
              clear r2 r5 hq5 S2 HB2 e1 e2
              go_wp2_with fail
              refine (known5 _).mono ?_
              rintro e w6 ⟨rfl, hq6⟩
              have HB6 := Lib.hid (HB5.out.trans (hq6.mono (by have := HB5.out.size; have := HB0.out; omega)))
              clear hq6 HB5
              go_wp2
              go_ret
              exact ⟨rfl, HB6.out⟩
            · go_wp2_with fail
              refine (k_find S2.out a).mono ?_
              rw [e1]
              rintro e _ ⟨rfl, rfl⟩
              go_wp2_with fail
              refine (k_at S2.out a 0).mono ?_
              rw [e2]
              rintro e w5 ⟨rfl, hq5⟩
              have r5 := r2.below hq5 (r2.lt (by have := HQ.out; omega))
              have HB5 := Lib.hid (HB2.out.trans (hq5.mono (by have := HB2.out.size; have := HB0.out; omega)))
              have c1 := r5.c1 i (by omega)
              rw [Nat.zero_add] at c1
              have o2 : (m : Int) - 1 = i := by have := HQ.out; omega
              have o3 : (i : Int) < m := by have := HQ.out; omega
              clear r2 r5 hq5 S2 HB2 e1 e2 hi
              go_wp2_with fail
              refine (known5 _).mono ?_
              rintro e w6 ⟨rfl, hq6⟩
              have HB6 := Lib.hid (HB5.out.trans (hq6.mono (by have := HB5.out.size; have := HB0.out; omega)))
              clear hq6 HB5
              go_wp2
              go_ret
              exact ⟨rfl, HB6.out⟩
            · go_wp2_with fail
              refine (k_find S2.out a).mono ?_
              rw [e1]
              rintro e _ ⟨rfl, rfl⟩
              go_wp2_with fail
              refine (k_at S2.out a 0).mono ?_
              rw [e2]
              rintro e w5 ⟨rfl, hq5⟩
              have r5 := r2.below hq5 (r2.lt (by have := HQ.out; omega))
              have HB5 := Lib.hid (HB2.out.trans (hq5.mono (by have := HB2.out.size; have := HB0.out; omega)))
              have c1 := fun (z : Later w5) => (r5.later (by omega) z).c1 i (by omega)
              have d1 := fun (z : Later w5) => (r5.later (by omega) z).c1 (i + 1) hi
              rw [Nat.zero_add] at c1 d1
              have o2 : ¬ (i : Int) = (m : Int) - 1 := by have := HQ.out; omega
              have o3 : (i : Int) < m := by have := HQ.out; omega
              have o4 : (i : Int) + 1 < m := by have := HQ.out; omega
              have v0 := RI.out.val i (by omega)
              have v1 := RI.out.val (i + 1) hi
              obtain ⟨t0, t1⟩ := tween_in (t := a) v0.1 v0.2 v1.1 v1.2 (RI.out.how i (by omega)).1 (ST.out i (by have := HQ.out; omega))
              generalize tween (ky qs i) (ky qs (i + 1)) a = T at *
              generalize (ky qs i).v = X at *
              generalize (ky qs (i + 1)).v = Y at *
              clear r2 r5 hq5 S2 HB2 e1 e2 hi v0 v1
              rcases (show X < Y ∨ X = Y ∨ Y < X by omega) with hxy | hxy | hxy
              · have u0 : X ≤ T := by omega
                have u1 : T ≤ Y := by omega
                clear t0 t1
                go_wp2_with fail
                refine wp_region_class (C := fun w' => ∃ z : Later w5, w' = z.to) (by kernel_rfl) (by kernel_rfl) ⟨⟨_, below_drew (Below.refl _ _)⟩, rfl⟩ ?_
                repeat (go_big_quiet_step (first | (go_at_call 11; exact Later.calls (known5 _))))
                refine wpQuiet_nil ?_
                rintro _ ⟨z, rfl⟩
                go_wp2
                go_ret
                exact ⟨rfl, HB5.out.trans (z.below.mono (by have := HB5.out.size; have := HB0.out; omega))⟩
              · have u0 : T = X := by omega
                subst hxy
                subst u0
                clear t0 t1
                go_wp2_with fail
                refine wp_region_class (C := fun w' => ∃ z : Later w5, w' = z.to) (by kernel_rfl) (by kernel_rfl) ⟨⟨_, below_drew (Below.refl _ _)⟩, rfl⟩ ?_
                repeat (go_big_quiet_step (first | (go_at_call 11; exact Later.calls (known5 _))))
                refine wpQuiet_nil ?_
                rintro _ ⟨z, rfl⟩
                go_wp2
                go_ret
                exact ⟨rfl, HB5.out.trans (z.below.mono (by have := HB5.out.size; have := HB0.out; omega))⟩
              · have u0 : Y ≤ T := by omega
                have u1 : T ≤ X := by omega
                clear t0 t1
                go_wp2_with fail
                refine wp_region_class (C := fun w' => ∃ z : Later w5, w' = z.to) (by kernel_rfl) (by kernel_rfl) ⟨⟨_, below_drew (Below.refl _ _)⟩, rfl⟩ ?_
                repeat (go_big_quiet_step (first | (go_at_call 11; exact Later.calls (known5 _))))
                refine wpQuiet_nil ?_
                rintro _ ⟨z, rfl⟩
                go_wp2
                go_ret
                exact ⟨rfl, HB5.out.trans (z.below.mono (by have := HB5.out.size; have := HB0.out; omega))⟩

end Go.Proofs.Yteikhmendjahnaa
