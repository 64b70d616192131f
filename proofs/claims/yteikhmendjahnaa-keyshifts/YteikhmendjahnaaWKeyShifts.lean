/- The walk of mutoscopelaw5.KeyShifts: it returns true; of the memory nothing that was there turns. No condition. -/
import Derived.Test.YteikhmendjahnaaKS5
import Derived.Test.YteikhmendjahnaaL5
import Derived.Deep.RegionHeld3
import Derived.Deep.DrawnRows
import Derived.BigRegion
namespace Go.Proofs.Yteikhmendjahnaa
open Go.RowKit
open M
attribute [local go_sem ↓] Go.wp_at_zero Go.wp_at_succ

set_option maxHeartbeats 8000000 in
theorem keyShifts_walk {w : World} (l : Value) (ks : List Ky) (by' more t : Int) (hA : Arg w l ks) :
    Calls Try.prog 7 #[l, .int .i64 by', .int .i64 more, .int .i64 t] w fun r w' => r = .returned (.bool true) ∧ Below w.heap.size w w' := by
  have HA := Lib.hid hA
  obtain ⟨B, hB⟩ : ∃ B, w.heap.size = B := ⟨_, rfl⟩
  rw [hB]
  have HB0 := Lib.hid hB
  clear hA hB
  obtain ⟨n, hn, n0, n1⟩ : ∃ x, bits .and .i64 by' 1023 = x ∧ 0 ≤ x ∧ x ≤ 1023 := ⟨_, rfl, by rw [and_kilo]; omega, by rw [and_kilo]; omega⟩
  obtain ⟨k, hk, k0, k1⟩ : ∃ x, more.tmod 65536 = x ∧ -65536 < x ∧ x < 65536 := ⟨_, rfl, (tmod_bd _ _ (by decide)).1, (tmod_bd _ _ (by decide)).2⟩
  go_enter Try.func7, Try.ntmps7
  go_wp2_with fail
  refine (l5_rising HA.out).mono ?_
  rintro e w1 ⟨v, rs, A, rfl, hl, hrise, hown, hb⟩
  rw [HB0.out] at hown hb
  clear HA hl
  by_cases h0 : rs.length = 0
  · obtain rfl : rs = [] := List.eq_nil_of_length_eq_zero h0
    have hsl := hown.sl (by simp)
    obtain ⟨ao, cap, rfl⟩ : ∃ ao cap, v = .slice ao 0 cap := by
      rcases hsl with ⟨_, h⟩ | ⟨h, _⟩
      · exact h
      · simp at h
    have SL := Lib.hid hsl
    have HB := Lib.hid hb
    have s1 : B ≤ w1.heap.size := by have := hb.size; have := HB0.out; omega
    obtain ⟨a, ha, a0, a1⟩ : ∃ x, bits .and .i64 t 255 = x ∧ 0 ≤ x ∧ x ≤ 255 := ⟨_, rfl, by rw [and_byte]; omega, by rw [and_byte]; omega⟩
    clear hsl hb hown hrise h0
    go_wp2
    clear hn hk
    go_loop [12, 13, 15, 16, 17, 28] (fun L G _ _ _ i => L = .slice none 0 0 ∧ G = .slice none 0 0 ∧ i = .int .i64 0) (fun _ _ _ _ _ _ => 0)
    case atStart => exact ⟨rfl, rfl, rfl⟩
    case round =>
      obtain ⟨rfl, rfl, rfl⟩ := hrel
      go_wp2
      go_loop [18, 65] (fun _ i => i = .int .i64 0) (fun _ _ => 0)
      case atStart => rfl
      case round =>
        subst hrel
        go_wp2_with fail
        refine (k_at (ks := []) (Or.inl ⟨rfl, none, 0, rfl⟩) (a + n) 5).mono ?_
        rw [show atk [] (a + n) 5 = 5 from rfl]
        rintro e w5 ⟨rfl, hq5⟩
        have HB5 := Lib.hid (HB.out.trans (hq5.mono s1))
        have S5 := Lib.hid (SL.out.below hq5)
        have s5 : B ≤ w5.heap.size := by have := hq5.size; omega
        clear hq5 HB SL
        go_wp2_with fail
        refine (k_at S5.out a 5).mono ?_
        rw [show atk [] a 5 = 5 from rfl]
        rintro e w6 ⟨rfl, hq6⟩
        have HB6 := Lib.hid (HB5.out.trans (hq6.mono s5))
        have s6 : B ≤ w6.heap.size := by have := hq6.size; omega
        clear hq6 HB5 S5
        go_wp2_with fail
        refine (known5 _).mono ?_
        rintro e w7 ⟨rfl, hq7⟩
        have HB7 := Lib.hid (HB6.out.trans (hq7.mono s6))
        clear hq7 HB6
        go_wp2
        go_ret
        exact ⟨rfl, HB7.out⟩
  · obtain ⟨g, cap, rfl⟩ := hown.shape (by omega)
    obtain ⟨N, hN⟩ : ∃ N, rs.length = N := ⟨_, rfl⟩
    have hN40 : N ≤ 40 := by have := hrise.few; omega
    have hN0 : 0 < N := by omega
    rw [hN] at hown ⊢
    clear h0
    have hlt := hown.base
    obtain ⟨B1, hB1⟩ : ∃ B1, w1.heap.size = B1 := ⟨_, rfl⟩
    rw [hB1] at hlt
    have hlt0 : B ≤ B1 := by omega
    have RLT : Hid (∀ j, Value.ownBlock (.slice (some ⟨g, 0, none⟩) N cap) = some j → j < B1) := Lib.hid (fun j e => by have e' : g = j := Option.some.inj e; omega)
    have HB1 := Lib.hid hB1
    have HW := Lib.hid hown
    have HBB := Lib.hid hb
    have HR := Lib.hid hrise
    have HN := Lib.hid hN
    clear hown hb hrise hN hB1
    go_wp2
    clear hn hk
    go_loopw [12, 13, 15, 16, 17, 28] (fun L G _ _ _ i wr => ∃ (m : Nat), m ≤ N ∧ i = .int .i64 m ∧ Pair wr B1 L G (laN n rs m) (grN k rs m) ∧ Own wr B (.slice (some ⟨g, 0, none⟩) N cap) rs ∧ Below B w wr ∧ B1 ≤ wr.heap.size) (fun _ _ _ _ _ i _ => N - (intOf i).toNat)
    case atStart => exact ⟨0, by omega, rfl, ⟨Own.nil _ _, Own.nil _ _, fun j e => by cases e⟩, HW.out, HBB.out, by have := HB1.out; omega⟩
    case round =>
      clear HW HBB
      obtain ⟨m, hm, rfl, hpp, hown, hb, hsz⟩ := hrel
      by_cases hlm : m < N
      · have hr := hown.row (by have := HN.out; omega) (by have := HN.out; omega)
        have c0 := hr.c0 m (by have := HN.out; omega)
        have c1 := hr.c1 m (by have := HN.out; omega)
        have c2 := hr.c2 m (by have := HN.out; omega)
        have c3 := hr.c3 m (by have := HN.out; omega)
        have c4 := hr.c4 m (by have := HN.out; omega)
        have c5 := hr.c5 m (by have := HN.out; omega)
        have c6 := hr.c6 m (by have := HN.out; omega)
        rw [Nat.zero_add] at c0 c1 c2 c3 c4 c5 c6
        have hv := HR.out.val m (by have := HN.out; omega)
        have hh := HR.out.how m (by have := HN.out; omega)
        have ht := HR.out.tick m (by have := HN.out; omega)
        have ht' : (ky rs m).t ≤ 400 := by have := HR.out.top; have := HR.out.few; omega
        have el := laN_succ n rs m
        have eg := grN_succ k rs m
        have o1 : (m : Int) < N := by omega
        generalize ky rs m = q at *
        obtain ⟨kt, kv, kh, ka, kb, kc, kd⟩ := q
        simp only at c0 c1 c2 c3 c4 c5 c6 hv hh ht ht'
        have PP := Lib.hid hpp
        have LLT : Hid (∀ j, Value.ownBlock u12 = some j → j < wr.heap.size) := Lib.hid (fun j e => (World.ownsRow.lt hpp.l j e).2)
        have GLT : Hid (∀ j, Value.ownBlock u13 = some j → j < wr.heap.size) := Lib.hid (fun j e => (World.ownsRow.lt hpp.g j e).2)
        have LEN := Lib.hid (show (laN n rs m).length + 1 = m + 1 by rw [laN_length])
        have LENG := Lib.hid (show (grN k rs m).length + 1 = m + 1 by rw [grN_length])
        have FEW := Lib.hid (show m + 1 ≤ 1000 by omega)
        have HO := Lib.hid hown
        have HB := Lib.hid hb
        clear hr hpp hown hb
        by_cases h2 : kh = 2
        · subst h2
          rw [show lat n (st ⟨kt, kv, 2, ka, kb, kc, kd⟩) = ⟨kt + n, kv / 4, 1, 0, 0, 0, 0⟩ from rfl] at el
          rw [show grt k (st ⟨kt, kv, 2, ka, kb, kc, kd⟩) = ⟨kt, kv / 4 + k, 1, 0, 0, 0, 0⟩ from rfl] at eg
          have EL := Lib.hid el
          have EG := Lib.hid eg
          clear el eg
          go_wp2_with fail
          go_region
          · go_wp2_with fail
            obtain ⟨V, hV⟩ : ∃ V, World.drew (((wr.alloc (.cells (kCells ⟨kt, kv / 4, 1, 0, 0, 0, 0⟩) 26)).alloc (.cells (kCells ⟨kt + n, kv / 4, 1, 0, 0, 0, 0⟩) 26)).alloc (.cells (kCells ⟨kt, kv / 4 + k, 1, 0, 0, 0, 0⟩) 26)) = V := ⟨_, rfl⟩
            have hSV : Sx w B B1 (.slice (some ⟨g, 0, none⟩) N cap) rs (wr.heap.size + 1) (wr.heap.size + 2) (⟨kt + n, kv / 4, 1, 0, 0, 0, 0⟩ : Ky) (⟨kt, kv / 4 + k, 1, 0, 0, 0, 0⟩ : Ky) V := by rw [← hV]; exact Sx.drew (sx_start1 _ HO.out HB.out hsz hlt0 RLT.out)
            have hPD : Pair V.drew B1 u12 u13 (laN n rs m) (grN k rs m) := by rw [← hV]; exact Pair.drew (Pair.drew (((PP.out.alloc _).alloc _).alloc _))
            have hVS : V.heap.size = wr.heap.size + 3 := by rw [← hV]; simp
            have SV := Lib.hid hSV
            have PD := Lib.hid hPD
            have VS := Lib.hid hVS
            have LY : Hid (∀ j, Value.ownBlock u12 = some j → j ≠ wr.heap.size + 1 ∧ j ≠ wr.heap.size + 2) := Lib.hid (fun j e => by have := LLT.out j e; omega)
            have GY : Hid (∀ j, Value.ownBlock u13 = some j → j ≠ wr.heap.size + 1 ∧ j ≠ wr.heap.size + 2) := Lib.hid (fun j e => by have := GLT.out j e; omega)
            rw [hV]
            clear hSV hPD hVS hV
            go_region_held3 (fun w' => Sx w B B1 (.slice (some ⟨g, 0, none⟩) N cap) rs (wr.heap.size + 1) (wr.heap.size + 2) (⟨kt + n, kv / 4, 1, 0, 0, 0, 0⟩ : Ky) (⟨kt, kv / 4 + k, 1, 0, 0, 0, 0⟩ : Ky) w' ∧ w'.cell? ⟨wr.heap.size + 1, 0, none⟩ = some (.int .i64 (kt + n)) ∧ w'.cell? ⟨wr.heap.size + 1, 1, none⟩ = some (.int .i64 (kv / 4)) ∧ w'.cell? ⟨wr.heap.size + 1, 2, none⟩ = some (.int .i64 (1)) ∧ w'.cell? ⟨wr.heap.size + 1, 3, none⟩ = some (.int .i64 (0)) ∧ w'.cell? ⟨wr.heap.size + 1, 4, none⟩ = some (.int .i64 (0)) ∧ w'.cell? ⟨wr.heap.size + 1, 5, none⟩ = some (.int .i64 (0)) ∧ w'.cell? ⟨wr.heap.size + 1, 6, none⟩ = some (.int .i64 (0)) ∧ w'.cell? ⟨wr.heap.size + 2, 0, none⟩ = some (.int .i64 (kt)) ∧ w'.cell? ⟨wr.heap.size + 2, 1, none⟩ = some (.int .i64 (kv / 4 + k)) ∧ w'.cell? ⟨wr.heap.size + 2, 2, none⟩ = some (.int .i64 (1)) ∧ w'.cell? ⟨wr.heap.size + 2, 3, none⟩ = some (.int .i64 (0)) ∧ w'.cell? ⟨wr.heap.size + 2, 4, none⟩ = some (.int .i64 (0)) ∧ w'.cell? ⟨wr.heap.size + 2, 5, none⟩ = some (.int .i64 (0)) ∧ w'.cell? ⟨wr.heap.size + 2, 6, none⟩ = some (.int .i64 (0))) ((go_split_ands; first | exact Sx.cells (Sx.drew SV.out) | exact Sx.cells (by assumption) | exact Sx.cells (Sx.alloc (by assumption) _)))
              (first
                | (go_split_ands; refine step_append_pair (w0 := w) (B := B) (B1 := B1) (r := (.slice (some ⟨g, 0, none⟩) N cap)) (rs := rs) (Y := wr.heap.size + 1) (Z := wr.heap.size + 2) (yk := (⟨kt + n, kv / 4, 1, 0, 0, 0, 0⟩ : Ky)) (zk := (⟨kt, kv / 4 + k, 1, 0, 0, 0, 0⟩ : Ky)) (by rfl) (.tmp 54) (.tmp 56) (by rfl) (m + 1) u12 _ (laN n rs m) _ (⟨kt + n, kv / 4, 1, 0, 0, 0, 0⟩ : Ky) (by rfl) (by first | exact PD.out | exact PD.out.alloc _ | exact (PD.out.alloc _).alloc _ | exact pb.swap | exact pb.swap.alloc _) (V.heap.size) (by rfl) (by first | exact has_new (w := V) rfl | exact (has_new (w := V) rfl).alloc (.cells (kCells ⟨kt, kv / 4 + k, 1, 0, 0, 0, 0⟩) 26) | exact has_far gb ((has_new (w := V) rfl).alloc (.cells (kCells ⟨kt, kv / 4 + k, 1, 0, 0, 0, 0⟩) 26)) (fun e => by have := GLT.out _ e; have := VS.out; omega)) LEN.out FEW.out (by assumption) LY.out ?_; intro g1 cap1 wa pa ga sa)
                | (go_split_ands; refine step_append_pair (w0 := w) (B := B) (B1 := B1) (r := (.slice (some ⟨g, 0, none⟩) N cap)) (rs := rs) (Y := wr.heap.size + 1) (Z := wr.heap.size + 2) (yk := (⟨kt + n, kv / 4, 1, 0, 0, 0, 0⟩ : Ky)) (zk := (⟨kt, kv / 4 + k, 1, 0, 0, 0, 0⟩ : Ky)) (by rfl) (.tmp 54) (.tmp 56) (by rfl) (m + 1) u12 _ (laN n rs m) _ (⟨kt + n, kv / 4, 1, 0, 0, 0, 0⟩ : Ky) (by rfl) (by first | exact PD.out | exact PD.out.alloc _ | exact (PD.out.alloc _).alloc _ | exact pb.swap | exact pb.swap.alloc _) (V.heap.size + 1) (by rfl) (by first | exact has_new (w := V.alloc (.cells (kCells ⟨kt, kv / 4 + k, 1, 0, 0, 0, 0⟩) 26)) (by simp) | exact has_far gb (has_new (w := V.alloc (.cells (kCells ⟨kt, kv / 4 + k, 1, 0, 0, 0, 0⟩) 26)) (by simp)) (fun e => by have := GLT.out _ e; have := VS.out; omega)) LEN.out FEW.out (by assumption) LY.out ?_; intro g1 cap1 wa pa ga sa)
                | (go_split_ands; refine step_append_pair (w0 := w) (B := B) (B1 := B1) (r := (.slice (some ⟨g, 0, none⟩) N cap)) (rs := rs) (Y := wr.heap.size + 1) (Z := wr.heap.size + 2) (yk := (⟨kt + n, kv / 4, 1, 0, 0, 0, 0⟩ : Ky)) (zk := (⟨kt, kv / 4 + k, 1, 0, 0, 0, 0⟩ : Ky)) (by rfl) (.tmp 54) (.tmp 56) (by rfl) (m + 1) u12 _ (laN n rs m) _ (⟨kt + n, kv / 4, 1, 0, 0, 0, 0⟩ : Ky) (by rfl) (by first | exact PD.out | exact PD.out.alloc _ | exact (PD.out.alloc _).alloc _ | exact pb.swap | exact pb.swap.alloc _) (wb.heap.size) (by rfl) (by first | exact has_new (w := wb) rfl) LEN.out FEW.out (by assumption) LY.out ?_; intro g1 cap1 wa pa ga sa)
                | (go_split_ands; refine step_append_pair (w0 := w) (B := B) (B1 := B1) (r := (.slice (some ⟨g, 0, none⟩) N cap)) (rs := rs) (Y := wr.heap.size + 1) (Z := wr.heap.size + 2) (yk := (⟨kt + n, kv / 4, 1, 0, 0, 0, 0⟩ : Ky)) (zk := (⟨kt, kv / 4 + k, 1, 0, 0, 0, 0⟩ : Ky)) (by rfl) (.tmp 58) (.tmp 60) (by rfl) (m + 1) u13 _ (grN k rs m) _ (⟨kt, kv / 4 + k, 1, 0, 0, 0, 0⟩ : Ky) (by rfl) (by first | exact PD.out.swap | exact PD.out.swap.alloc _ | exact (PD.out.swap.alloc _).alloc _ | exact pa.swap | exact pa.swap.alloc _) (V.heap.size) (by rfl) (by first | exact has_new (w := V) rfl | exact (has_new (w := V) rfl).alloc (.cells (kCells ⟨kt + n, kv / 4, 1, 0, 0, 0, 0⟩) 26) | exact has_far ga ((has_new (w := V) rfl).alloc (.cells (kCells ⟨kt + n, kv / 4, 1, 0, 0, 0, 0⟩) 26)) (fun e => by have := LLT.out _ e; have := VS.out; omega)) LENG.out FEW.out (by assumption) GY.out ?_; intro g2 cap2 wb pb gb sb)
                | (go_split_ands; refine step_append_pair (w0 := w) (B := B) (B1 := B1) (r := (.slice (some ⟨g, 0, none⟩) N cap)) (rs := rs) (Y := wr.heap.size + 1) (Z := wr.heap.size + 2) (yk := (⟨kt + n, kv / 4, 1, 0, 0, 0, 0⟩ : Ky)) (zk := (⟨kt, kv / 4 + k, 1, 0, 0, 0, 0⟩ : Ky)) (by rfl) (.tmp 58) (.tmp 60) (by rfl) (m + 1) u13 _ (grN k rs m) _ (⟨kt, kv / 4 + k, 1, 0, 0, 0, 0⟩ : Ky) (by rfl) (by first | exact PD.out.swap | exact PD.out.swap.alloc _ | exact (PD.out.swap.alloc _).alloc _ | exact pa.swap | exact pa.swap.alloc _) (V.heap.size + 1) (by rfl) (by first | exact has_new (w := V.alloc (.cells (kCells ⟨kt + n, kv / 4, 1, 0, 0, 0, 0⟩) 26)) (by simp) | exact has_far ga (has_new (w := V.alloc (.cells (kCells ⟨kt + n, kv / 4, 1, 0, 0, 0, 0⟩) 26)) (by simp)) (fun e => by have := LLT.out _ e; have := VS.out; omega)) LENG.out FEW.out (by assumption) GY.out ?_; intro g2 cap2 wb pb gb sb)
                | (go_split_ands; refine step_append_pair (w0 := w) (B := B) (B1 := B1) (r := (.slice (some ⟨g, 0, none⟩) N cap)) (rs := rs) (Y := wr.heap.size + 1) (Z := wr.heap.size + 2) (yk := (⟨kt + n, kv / 4, 1, 0, 0, 0, 0⟩ : Ky)) (zk := (⟨kt, kv / 4 + k, 1, 0, 0, 0, 0⟩ : Ky)) (by rfl) (.tmp 58) (.tmp 60) (by rfl) (m + 1) u13 _ (grN k rs m) _ (⟨kt, kv / 4 + k, 1, 0, 0, 0, 0⟩ : Ky) (by rfl) (by first | exact PD.out.swap | exact PD.out.swap.alloc _ | exact (PD.out.swap.alloc _).alloc _ | exact pa.swap | exact pa.swap.alloc _) (wa.heap.size) (by rfl) (by first | exact has_new (w := wa) rfl) LENG.out FEW.out (by assumption) GY.out ?_; intro g2 cap2 wb pb gb sb))
            all_goals
              go_wp2
              go_roundw
              case rel => exact ⟨m + 1, by omega, by go_num, by rw [EL.out, EG.out]; first | assumption | exact Pair.swap (by assumption), (show Sx w B B1 (.slice (some ⟨g, 0, none⟩) N cap) rs (wr.heap.size + 1) (wr.heap.size + 2) (⟨kt + n, kv / 4, 1, 0, 0, 0, 0⟩ : Ky) (⟨kt, kv / 4 + k, 1, 0, 0, 0, 0⟩ : Ky) _ by assumption).own, (show Sx w B B1 (.slice (some ⟨g, 0, none⟩) N cap) rs (wr.heap.size + 1) (wr.heap.size + 2) (⟨kt + n, kv / 4, 1, 0, 0, 0, 0⟩ : Ky) (⟨kt, kv / 4 + k, 1, 0, 0, 0, 0⟩ : Ky) _ by assumption).below, (show Sx w B B1 (.slice (some ⟨g, 0, none⟩) N cap) rs (wr.heap.size + 1) (wr.heap.size + 2) (⟨kt + n, kv / 4, 1, 0, 0, 0, 0⟩ : Ky) (⟨kt, kv / 4 + k, 1, 0, 0, 0, 0⟩ : Ky) _ by assumption).size⟩
              case measure => simp [intOf]; omega
          · go_wp2_with fail
            obtain ⟨V, hV⟩ : ∃ V, World.drew (((wr.alloc (.cells (kCells ⟨kt, kv / 4, 1, 0, 0, 0, 0⟩) 26)).alloc (.cells (kCells ⟨kt, kv / 4 + k, 1, 0, 0, 0, 0⟩) 26)).alloc (.cells (kCells ⟨kt + n, kv / 4, 1, 0, 0, 0, 0⟩) 26)) = V := ⟨_, rfl⟩
            have hSV : Sx w B B1 (.slice (some ⟨g, 0, none⟩) N cap) rs (wr.heap.size + 2) (wr.heap.size + 1) (⟨kt + n, kv / 4, 1, 0, 0, 0, 0⟩ : Ky) (⟨kt, kv / 4 + k, 1, 0, 0, 0, 0⟩ : Ky) V := by rw [← hV]; exact Sx.drew (sx_start2 _ HO.out HB.out hsz hlt0 RLT.out)
            have hPD : Pair V.drew B1 u12 u13 (laN n rs m) (grN k rs m) := by rw [← hV]; exact Pair.drew (Pair.drew (((PP.out.alloc _).alloc _).alloc _))
            have hVS : V.heap.size = wr.heap.size + 3 := by rw [← hV]; simp
            have SV := Lib.hid hSV
            have PD := Lib.hid hPD
            have VS := Lib.hid hVS
            have LY : Hid (∀ j, Value.ownBlock u12 = some j → j ≠ wr.heap.size + 2 ∧ j ≠ wr.heap.size + 1) := Lib.hid (fun j e => by have := LLT.out j e; omega)
            have GY : Hid (∀ j, Value.ownBlock u13 = some j → j ≠ wr.heap.size + 2 ∧ j ≠ wr.heap.size + 1) := Lib.hid (fun j e => by have := GLT.out j e; omega)
            rw [hV]
            clear hSV hPD hVS hV
            go_region_held3 (fun w' => Sx w B B1 (.slice (some ⟨g, 0, none⟩) N cap) rs (wr.heap.size + 2) (wr.heap.size + 1) (⟨kt + n, kv / 4, 1, 0, 0, 0, 0⟩ : Ky) (⟨kt, kv / 4 + k, 1, 0, 0, 0, 0⟩ : Ky) w' ∧ w'.cell? ⟨wr.heap.size + 2, 0, none⟩ = some (.int .i64 (kt + n)) ∧ w'.cell? ⟨wr.heap.size + 2, 1, none⟩ = some (.int .i64 (kv / 4)) ∧ w'.cell? ⟨wr.heap.size + 2, 2, none⟩ = some (.int .i64 (1)) ∧ w'.cell? ⟨wr.heap.size + 2, 3, none⟩ = some (.int .i64 (0)) ∧ w'.cell? ⟨wr.heap.size + 2, 4, none⟩ = some (.int .i64 (0)) ∧ w'.cell? ⟨wr.heap.size + 2, 5, none⟩ = some (.int .i64 (0)) ∧ w'.cell? ⟨wr.heap.size + 2, 6, none⟩ = some (.int .i64 (0)) ∧ w'.cell? ⟨wr.heap.size + 1, 0, none⟩ = some (.int .i64 (kt)) ∧ w'.cell? ⟨wr.heap.size + 1, 1, none⟩ = some (.int .i64 (kv / 4 + k)) ∧ w'.cell? ⟨wr.heap.size + 1, 2, none⟩ = some (.int .i64 (1)) ∧ w'.cell? ⟨wr.heap.size + 1, 3, none⟩ = some (.int .i64 (0)) ∧ w'.cell? ⟨wr.heap.size + 1, 4, none⟩ = some (.int .i64 (0)) ∧ w'.cell? ⟨wr.heap.size + 1, 5, none⟩ = some (.int .i64 (0)) ∧ w'.cell? ⟨wr.heap.size + 1, 6, none⟩ = some (.int .i64 (0))) ((go_split_ands; first | exact Sx.cells (Sx.drew SV.out) | exact Sx.cells (by assumption) | exact Sx.cells (Sx.alloc (by assumption) _)))
              (first
                | (go_split_ands; refine step_append_pair (w0 := w) (B := B) (B1 := B1) (r := (.slice (some ⟨g, 0, none⟩) N cap)) (rs := rs) (Y := wr.heap.size + 2) (Z := wr.heap.size + 1) (yk := (⟨kt + n, kv / 4, 1, 0, 0, 0, 0⟩ : Ky)) (zk := (⟨kt, kv / 4 + k, 1, 0, 0, 0, 0⟩ : Ky)) (by rfl) (.tmp 54) (.tmp 56) (by rfl) (m + 1) u12 _ (laN n rs m) _ (⟨kt + n, kv / 4, 1, 0, 0, 0, 0⟩ : Ky) (by rfl) (by first | exact PD.out | exact PD.out.alloc _ | exact (PD.out.alloc _).alloc _ | exact pb.swap | exact pb.swap.alloc _) (V.heap.size) (by rfl) (by first | exact has_new (w := V) rfl | exact (has_new (w := V) rfl).alloc (.cells (kCells ⟨kt, kv / 4 + k, 1, 0, 0, 0, 0⟩) 26) | exact has_far gb ((has_new (w := V) rfl).alloc (.cells (kCells ⟨kt, kv / 4 + k, 1, 0, 0, 0, 0⟩) 26)) (fun e => by have := GLT.out _ e; have := VS.out; omega)) LEN.out FEW.out (by assumption) LY.out ?_; intro g1 cap1 wa pa ga sa)
                | (go_split_ands; refine step_append_pair (w0 := w) (B := B) (B1 := B1) (r := (.slice (some ⟨g, 0, none⟩) N cap)) (rs := rs) (Y := wr.heap.size + 2) (Z := wr.heap.size + 1) (yk := (⟨kt + n, kv / 4, 1, 0, 0, 0, 0⟩ : Ky)) (zk := (⟨kt, kv / 4 + k, 1, 0, 0, 0, 0⟩ : Ky)) (by rfl) (.tmp 54) (.tmp 56) (by rfl) (m + 1) u12 _ (laN n rs m) _ (⟨kt + n, kv / 4, 1, 0, 0, 0, 0⟩ : Ky) (by rfl) (by first | exact PD.out | exact PD.out.alloc _ | exact (PD.out.alloc _).alloc _ | exact pb.swap | exact pb.swap.alloc _) (V.heap.size + 1) (by rfl) (by first | exact has_new (w := V.alloc (.cells (kCells ⟨kt, kv / 4 + k, 1, 0, 0, 0, 0⟩) 26)) (by simp) | exact has_far gb (has_new (w := V.alloc (.cells (kCells ⟨kt, kv / 4 + k, 1, 0, 0, 0, 0⟩) 26)) (by simp)) (fun e => by have := GLT.out _ e; have := VS.out; omega)) LEN.out FEW.out (by assumption) LY.out ?_; intro g1 cap1 wa pa ga sa)
                | (go_split_ands; refine step_append_pair (w0 := w) (B := B) (B1 := B1) (r := (.slice (some ⟨g, 0, none⟩) N cap)) (rs := rs) (Y := wr.heap.size + 2) (Z := wr.heap.size + 1) (yk := (⟨kt + n, kv / 4, 1, 0, 0, 0, 0⟩ : Ky)) (zk := (⟨kt, kv / 4 + k, 1, 0, 0, 0, 0⟩ : Ky)) (by rfl) (.tmp 54) (.tmp 56) (by rfl) (m + 1) u12 _ (laN n rs m) _ (⟨kt + n, kv / 4, 1, 0, 0, 0, 0⟩ : Ky) (by rfl) (by first | exact PD.out | exact PD.out.alloc _ | exact (PD.out.alloc _).alloc _ | exact pb.swap | exact pb.swap.alloc _) (wb.heap.size) (by rfl) (by first | exact has_new (w := wb) rfl) LEN.out FEW.out (by assumption) LY.out ?_; intro g1 cap1 wa pa ga sa)
                | (go_split_ands; refine step_append_pair (w0 := w) (B := B) (B1 := B1) (r := (.slice (some ⟨g, 0, none⟩) N cap)) (rs := rs) (Y := wr.heap.size + 2) (Z := wr.heap.size + 1) (yk := (⟨kt + n, kv / 4, 1, 0, 0, 0, 0⟩ : Ky)) (zk := (⟨kt, kv / 4 + k, 1, 0, 0, 0, 0⟩ : Ky)) (by rfl) (.tmp 58) (.tmp 60) (by rfl) (m + 1) u13 _ (grN k rs m) _ (⟨kt, kv / 4 + k, 1, 0, 0, 0, 0⟩ : Ky) (by rfl) (by first | exact PD.out.swap | exact PD.out.swap.alloc _ | exact (PD.out.swap.alloc _).alloc _ | exact pa.swap | exact pa.swap.alloc _) (V.heap.size) (by rfl) (by first | exact has_new (w := V) rfl | exact (has_new (w := V) rfl).alloc (.cells (kCells ⟨kt + n, kv / 4, 1, 0, 0, 0, 0⟩) 26) | exact has_far ga ((has_new (w := V) rfl).alloc (.cells (kCells ⟨kt + n, kv / 4, 1, 0, 0, 0, 0⟩) 26)) (fun e => by have := LLT.out _ e; have := VS.out; omega)) LENG.out FEW.out (by assumption) GY.out ?_; intro g2 cap2 wb pb gb sb)
                | (go_split_ands; refine step_append_pair (w0 := w) (B := B) (B1 := B1) (r := (.slice (some ⟨g, 0, none⟩) N cap)) (rs := rs) (Y := wr.heap.size + 2) (Z := wr.heap.size + 1) (yk := (⟨kt + n, kv / 4, 1, 0, 0, 0, 0⟩ : Ky)) (zk := (⟨kt, kv / 4 + k, 1, 0, 0, 0, 0⟩ : Ky)) (by rfl) (.tmp 58) (.tmp 60) (by rfl) (m + 1) u13 _ (grN k rs m) _ (⟨kt, kv / 4 + k, 1, 0, 0, 0, 0⟩ : Ky) (by rfl) (by first | exact PD.out.swap | exact PD.out.swap.alloc _ | exact (PD.out.swap.alloc _).alloc _ | exact pa.swap | exact pa.swap.alloc _) (V.heap.size + 1) (by rfl) (by first | exact has_new (w := V.alloc (.cells (kCells ⟨kt + n, kv / 4, 1, 0, 0, 0, 0⟩) 26)) (by simp) | exact has_far ga (has_new (w := V.alloc (.cells (kCells ⟨kt + n, kv / 4, 1, 0, 0, 0, 0⟩) 26)) (by simp)) (fun e => by have := LLT.out _ e; have := VS.out; omega)) LENG.out FEW.out (by assumption) GY.out ?_; intro g2 cap2 wb pb gb sb)
                | (go_split_ands; refine step_append_pair (w0 := w) (B := B) (B1 := B1) (r := (.slice (some ⟨g, 0, none⟩) N cap)) (rs := rs) (Y := wr.heap.size + 2) (Z := wr.heap.size + 1) (yk := (⟨kt + n, kv / 4, 1, 0, 0, 0, 0⟩ : Ky)) (zk := (⟨kt, kv / 4 + k, 1, 0, 0, 0, 0⟩ : Ky)) (by rfl) (.tmp 58) (.tmp 60) (by rfl) (m + 1) u13 _ (grN k rs m) _ (⟨kt, kv / 4 + k, 1, 0, 0, 0, 0⟩ : Ky) (by rfl) (by first | exact PD.out.swap | exact PD.out.swap.alloc _ | exact (PD.out.swap.alloc _).alloc _ | exact pa.swap | exact pa.swap.alloc _) (wa.heap.size) (by rfl) (by first | exact has_new (w := wa) rfl) LENG.out FEW.out (by assumption) GY.out ?_; intro g2 cap2 wb pb gb sb))
            all_goals
              go_wp2
              go_roundw
              case rel => exact ⟨m + 1, by omega, by go_num, by rw [EL.out, EG.out]; first | assumption | exact Pair.swap (by assumption), (show Sx w B B1 (.slice (some ⟨g, 0, none⟩) N cap) rs (wr.heap.size + 2) (wr.heap.size + 1) (⟨kt + n, kv / 4, 1, 0, 0, 0, 0⟩ : Ky) (⟨kt, kv / 4 + k, 1, 0, 0, 0, 0⟩ : Ky) _ by assumption).own, (show Sx w B B1 (.slice (some ⟨g, 0, none⟩) N cap) rs (wr.heap.size + 2) (wr.heap.size + 1) (⟨kt + n, kv / 4, 1, 0, 0, 0, 0⟩ : Ky) (⟨kt, kv / 4 + k, 1, 0, 0, 0, 0⟩ : Ky) _ by assumption).below, (show Sx w B B1 (.slice (some ⟨g, 0, none⟩) N cap) rs (wr.heap.size + 2) (wr.heap.size + 1) (⟨kt + n, kv / 4, 1, 0, 0, 0, 0⟩ : Ky) (⟨kt, kv / 4 + k, 1, 0, 0, 0, 0⟩ : Ky) _ by assumption).size⟩
              case measure => simp [intOf]; omega
        · have es : st ⟨kt, kv, kh, ka, kb, kc, kd⟩ = ⟨kt, kv / 4, kh, ka, kb, kc, kd⟩ := if_neg h2
          rw [es] at el eg
          change laN n rs (m + 1) = laN n rs m ++ [⟨kt + n, kv / 4, kh, ka, kb, kc, kd⟩] at el
          change grN k rs (m + 1) = grN k rs m ++ [⟨kt, kv / 4 + k, kh, ka, kb, kc, kd⟩] at eg
          have EL := Lib.hid el
          have EG := Lib.hid eg
          clear el eg es
          go_wp2_with fail
          go_region
          · go_wp2_with fail
            obtain ⟨V, hV⟩ : ∃ V, World.drew (((wr.alloc (.cells (kCells ⟨kt, kv / 4, kh, ka, kb, kc, kd⟩) 26)).alloc (.cells (kCells ⟨kt + n, kv / 4, kh, ka, kb, kc, kd⟩) 26)).alloc (.cells (kCells ⟨kt, kv / 4 + k, kh, ka, kb, kc, kd⟩) 26)) = V := ⟨_, rfl⟩
            have hSV : Sx w B B1 (.slice (some ⟨g, 0, none⟩) N cap) rs (wr.heap.size + 1) (wr.heap.size + 2) (⟨kt + n, kv / 4, kh, ka, kb, kc, kd⟩ : Ky) (⟨kt, kv / 4 + k, kh, ka, kb, kc, kd⟩ : Ky) V := by rw [← hV]; exact Sx.drew (sx_start1 _ HO.out HB.out hsz hlt0 RLT.out)
            have hPD : Pair V.drew B1 u12 u13 (laN n rs m) (grN k rs m) := by rw [← hV]; exact Pair.drew (Pair.drew (((PP.out.alloc _).alloc _).alloc _))
            have hVS : V.heap.size = wr.heap.size + 3 := by rw [← hV]; simp
            have SV := Lib.hid hSV
            have PD := Lib.hid hPD
            have VS := Lib.hid hVS
            have LY : Hid (∀ j, Value.ownBlock u12 = some j → j ≠ wr.heap.size + 1 ∧ j ≠ wr.heap.size + 2) := Lib.hid (fun j e => by have := LLT.out j e; omega)
            have GY : Hid (∀ j, Value.ownBlock u13 = some j → j ≠ wr.heap.size + 1 ∧ j ≠ wr.heap.size + 2) := Lib.hid (fun j e => by have := GLT.out j e; omega)
            rw [hV]
            clear hSV hPD hVS hV
            go_region_held3 (fun w' => Sx w B B1 (.slice (some ⟨g, 0, none⟩) N cap) rs (wr.heap.size + 1) (wr.heap.size + 2) (⟨kt + n, kv / 4, kh, ka, kb, kc, kd⟩ : Ky) (⟨kt, kv / 4 + k, kh, ka, kb, kc, kd⟩ : Ky) w' ∧ w'.cell? ⟨wr.heap.size + 1, 0, none⟩ = some (.int .i64 (kt + n)) ∧ w'.cell? ⟨wr.heap.size + 1, 1, none⟩ = some (.int .i64 (kv / 4)) ∧ w'.cell? ⟨wr.heap.size + 1, 2, none⟩ = some (.int .i64 (kh)) ∧ w'.cell? ⟨wr.heap.size + 1, 3, none⟩ = some (.int .i64 (ka)) ∧ w'.cell? ⟨wr.heap.size + 1, 4, none⟩ = some (.int .i64 (kb)) ∧ w'.cell? ⟨wr.heap.size + 1, 5, none⟩ = some (.int .i64 (kc)) ∧ w'.cell? ⟨wr.heap.size + 1, 6, none⟩ = some (.int .i64 (kd)) ∧ w'.cell? ⟨wr.heap.size + 2, 0, none⟩ = some (.int .i64 (kt)) ∧ w'.cell? ⟨wr.heap.size + 2, 1, none⟩ = some (.int .i64 (kv / 4 + k)) ∧ w'.cell? ⟨wr.heap.size + 2, 2, none⟩ = some (.int .i64 (kh)) ∧ w'.cell? ⟨wr.heap.size + 2, 3, none⟩ = some (.int .i64 (ka)) ∧ w'.cell? ⟨wr.heap.size + 2, 4, none⟩ = some (.int .i64 (kb)) ∧ w'.cell? ⟨wr.heap.size + 2, 5, none⟩ = some (.int .i64 (kc)) ∧ w'.cell? ⟨wr.heap.size + 2, 6, none⟩ = some (.int .i64 (kd))) ((go_split_ands; first | exact Sx.cells (Sx.drew SV.out) | exact Sx.cells (by assumption) | exact Sx.cells (Sx.alloc (by assumption) _)))
              (first
                | (go_split_ands; refine step_append_pair (w0 := w) (B := B) (B1 := B1) (r := (.slice (some ⟨g, 0, none⟩) N cap)) (rs := rs) (Y := wr.heap.size + 1) (Z := wr.heap.size + 2) (yk := (⟨kt + n, kv / 4, kh, ka, kb, kc, kd⟩ : Ky)) (zk := (⟨kt, kv / 4 + k, kh, ka, kb, kc, kd⟩ : Ky)) (by rfl) (.tmp 54) (.tmp 56) (by rfl) (m + 1) u12 _ (laN n rs m) _ (⟨kt + n, kv / 4, kh, ka, kb, kc, kd⟩ : Ky) (by rfl) (by first | exact PD.out | exact PD.out.alloc _ | exact (PD.out.alloc _).alloc _ | exact pb.swap | exact pb.swap.alloc _) (V.heap.size) (by rfl) (by first | exact has_new (w := V) rfl | exact (has_new (w := V) rfl).alloc (.cells (kCells ⟨kt, kv / 4 + k, kh, ka, kb, kc, kd⟩) 26) | exact has_far gb ((has_new (w := V) rfl).alloc (.cells (kCells ⟨kt, kv / 4 + k, kh, ka, kb, kc, kd⟩) 26)) (fun e => by have := GLT.out _ e; have := VS.out; omega)) LEN.out FEW.out (by assumption) LY.out ?_; intro g1 cap1 wa pa ga sa)
                | (go_split_ands; refine step_append_pair (w0 := w) (B := B) (B1 := B1) (r := (.slice (some ⟨g, 0, none⟩) N cap)) (rs := rs) (Y := wr.heap.size + 1) (Z := wr.heap.size + 2) (yk := (⟨kt + n, kv / 4, kh, ka, kb, kc, kd⟩ : Ky)) (zk := (⟨kt, kv / 4 + k, kh, ka, kb, kc, kd⟩ : Ky)) (by rfl) (.tmp 54) (.tmp 56) (by rfl) (m + 1) u12 _ (laN n rs m) _ (⟨kt + n, kv / 4, kh, ka, kb, kc, kd⟩ : Ky) (by rfl) (by first | exact PD.out | exact PD.out.alloc _ | exact (PD.out.alloc _).alloc _ | exact pb.swap | exact pb.swap.alloc _) (V.heap.size + 1) (by rfl) (by first | exact has_new (w := V.alloc (.cells (kCells ⟨kt, kv / 4 + k, kh, ka, kb, kc, kd⟩) 26)) (by simp) | exact has_far gb (has_new (w := V.alloc (.cells (kCells ⟨kt, kv / 4 + k, kh, ka, kb, kc, kd⟩) 26)) (by simp)) (fun e => by have := GLT.out _ e; have := VS.out; omega)) LEN.out FEW.out (by assumption) LY.out ?_; intro g1 cap1 wa pa ga sa)
                | (go_split_ands; refine step_append_pair (w0 := w) (B := B) (B1 := B1) (r := (.slice (some ⟨g, 0, none⟩) N cap)) (rs := rs) (Y := wr.heap.size + 1) (Z := wr.heap.size + 2) (yk := (⟨kt + n, kv / 4, kh, ka, kb, kc, kd⟩ : Ky)) (zk := (⟨kt, kv / 4 + k, kh, ka, kb, kc, kd⟩ : Ky)) (by rfl) (.tmp 54) (.tmp 56) (by rfl) (m + 1) u12 _ (laN n rs m) _ (⟨kt + n, kv / 4, kh, ka, kb, kc, kd⟩ : Ky) (by rfl) (by first | exact PD.out | exact PD.out.alloc _ | exact (PD.out.alloc _).alloc _ | exact pb.swap | exact pb.swap.alloc _) (wb.heap.size) (by rfl) (by first | exact has_new (w := wb) rfl) LEN.out FEW.out (by assumption) LY.out ?_; intro g1 cap1 wa pa ga sa)
                | (go_split_ands; refine step_append_pair (w0 := w) (B := B) (B1 := B1) (r := (.slice (some ⟨g, 0, none⟩) N cap)) (rs := rs) (Y := wr.heap.size + 1) (Z := wr.heap.size + 2) (yk := (⟨kt + n, kv / 4, kh, ka, kb, kc, kd⟩ : Ky)) (zk := (⟨kt, kv / 4 + k, kh, ka, kb, kc, kd⟩ : Ky)) (by rfl) (.tmp 58) (.tmp 60) (by rfl) (m + 1) u13 _ (grN k rs m) _ (⟨kt, kv / 4 + k, kh, ka, kb, kc, kd⟩ : Ky) (by rfl) (by first | exact PD.out.swap | exact PD.out.swap.alloc _ | exact (PD.out.swap.alloc _).alloc _ | exact pa.swap | exact pa.swap.alloc _) (V.heap.size) (by rfl) (by first | exact has_new (w := V) rfl | exact (has_new (w := V) rfl).alloc (.cells (kCells ⟨kt + n, kv / 4, kh, ka, kb, kc, kd⟩) 26) | exact has_far ga ((has_new (w := V) rfl).alloc (.cells (kCells ⟨kt + n, kv / 4, kh, ka, kb, kc, kd⟩) 26)) (fun e => by have := LLT.out _ e; have := VS.out; omega)) LENG.out FEW.out (by assumption) GY.out ?_; intro g2 cap2 wb pb gb sb)
                | (go_split_ands; refine step_append_pair (w0 := w) (B := B) (B1 := B1) (r := (.slice (some ⟨g, 0, none⟩) N cap)) (rs := rs) (Y := wr.heap.size + 1) (Z := wr.heap.size + 2) (yk := (⟨kt + n, kv / 4, kh, ka, kb, kc, kd⟩ : Ky)) (zk := (⟨kt, kv / 4 + k, kh, ka, kb, kc, kd⟩ : Ky)) (by rfl) (.tmp 58) (.tmp 60) (by rfl) (m + 1) u13 _ (grN k rs m) _ (⟨kt, kv / 4 + k, kh, ka, kb, kc, kd⟩ : Ky) (by rfl) (by first | exact PD.out.swap | exact PD.out.swap.alloc _ | exact (PD.out.swap.alloc _).alloc _ | exact pa.swap | exact pa.swap.alloc _) (V.heap.size + 1) (by rfl) (by first | exact has_new (w := V.alloc (.cells (kCells ⟨kt + n, kv / 4, kh, ka, kb, kc, kd⟩) 26)) (by simp) | exact has_far ga (has_new (w := V.alloc (.cells (kCells ⟨kt + n, kv / 4, kh, ka, kb, kc, kd⟩) 26)) (by simp)) (fun e => by have := LLT.out _ e; have := VS.out; omega)) LENG.out FEW.out (by assumption) GY.out ?_; intro g2 cap2 wb pb gb sb)
                | (go_split_ands; refine step_append_pair (w0 := w) (B := B) (B1 := B1) (r := (.slice (some ⟨g, 0, none⟩) N cap)) (rs := rs) (Y := wr.heap.size + 1) (Z := wr.heap.size + 2) (yk := (⟨kt + n, kv / 4, kh, ka, kb, kc, kd⟩ : Ky)) (zk := (⟨kt, kv / 4 + k, kh, ka, kb, kc, kd⟩ : Ky)) (by rfl) (.tmp 58) (.tmp 60) (by rfl) (m + 1) u13 _ (grN k rs m) _ (⟨kt, kv / 4 + k, kh, ka, kb, kc, kd⟩ : Ky) (by rfl) (by first | exact PD.out.swap | exact PD.out.swap.alloc _ | exact (PD.out.swap.alloc _).alloc _ | exact pa.swap | exact pa.swap.alloc _) (wa.heap.size) (by rfl) (by first | exact has_new (w := wa) rfl) LENG.out FEW.out (by assumption) GY.out ?_; intro g2 cap2 wb pb gb sb))
            all_goals
              go_wp2
              go_roundw
              case rel => exact ⟨m + 1, by omega, by go_num, by rw [EL.out, EG.out]; first | assumption | exact Pair.swap (by assumption), (show Sx w B B1 (.slice (some ⟨g, 0, none⟩) N cap) rs (wr.heap.size + 1) (wr.heap.size + 2) (⟨kt + n, kv / 4, kh, ka, kb, kc, kd⟩ : Ky) (⟨kt, kv / 4 + k, kh, ka, kb, kc, kd⟩ : Ky) _ by assumption).own, (show Sx w B B1 (.slice (some ⟨g, 0, none⟩) N cap) rs (wr.heap.size + 1) (wr.heap.size + 2) (⟨kt + n, kv / 4, kh, ka, kb, kc, kd⟩ : Ky) (⟨kt, kv / 4 + k, kh, ka, kb, kc, kd⟩ : Ky) _ by assumption).below, (show Sx w B B1 (.slice (some ⟨g, 0, none⟩) N cap) rs (wr.heap.size + 1) (wr.heap.size + 2) (⟨kt + n, kv / 4, kh, ka, kb, kc, kd⟩ : Ky) (⟨kt, kv / 4 + k, kh, ka, kb, kc, kd⟩ : Ky) _ by assumption).size⟩
              case measure => simp [intOf]; omega
          · go_wp2_with fail
            obtain ⟨V, hV⟩ : ∃ V, World.drew (((wr.alloc (.cells (kCells ⟨kt, kv / 4, kh, ka, kb, kc, kd⟩) 26)).alloc (.cells (kCells ⟨kt, kv / 4 + k, kh, ka, kb, kc, kd⟩) 26)).alloc (.cells (kCells ⟨kt + n, kv / 4, kh, ka, kb, kc, kd⟩) 26)) = V := ⟨_, rfl⟩
            have hSV : Sx w B B1 (.slice (some ⟨g, 0, none⟩) N cap) rs (wr.heap.size + 2) (wr.heap.size + 1) (⟨kt + n, kv / 4, kh, ka, kb, kc, kd⟩ : Ky) (⟨kt, kv / 4 + k, kh, ka, kb, kc, kd⟩ : Ky) V := by rw [← hV]; exact Sx.drew (sx_start2 _ HO.out HB.out hsz hlt0 RLT.out)
            have hPD : Pair V.drew B1 u12 u13 (laN n rs m) (grN k rs m) := by rw [← hV]; exact Pair.drew (Pair.drew (((PP.out.alloc _).alloc _).alloc _))
            have hVS : V.heap.size = wr.heap.size + 3 := by rw [← hV]; simp
            have SV := Lib.hid hSV
            have PD := Lib.hid hPD
            have VS := Lib.hid hVS
            have LY : Hid (∀ j, Value.ownBlock u12 = some j → j ≠ wr.heap.size + 2 ∧ j ≠ wr.heap.size + 1) := Lib.hid (fun j e => by have := LLT.out j e; omega)
            have GY : Hid (∀ j, Value.ownBlock u13 = some j → j ≠ wr.heap.size + 2 ∧ j ≠ wr.heap.size + 1) := Lib.hid (fun j e => by have := GLT.out j e; omega)
            rw [hV]
            clear hSV hPD hVS hV
            go_region_held3 (fun w' => Sx w B B1 (.slice (some ⟨g, 0, none⟩) N cap) rs (wr.heap.size + 2) (wr.heap.size + 1) (⟨kt + n, kv / 4, kh, ka, kb, kc, kd⟩ : Ky) (⟨kt, kv / 4 + k, kh, ka, kb, kc, kd⟩ : Ky) w' ∧ w'.cell? ⟨wr.heap.size + 2, 0, none⟩ = some (.int .i64 (kt + n)) ∧ w'.cell? ⟨wr.heap.size + 2, 1, none⟩ = some (.int .i64 (kv / 4)) ∧ w'.cell? ⟨wr.heap.size + 2, 2, none⟩ = some (.int .i64 (kh)) ∧ w'.cell? ⟨wr.heap.size + 2, 3, none⟩ = some (.int .i64 (ka)) ∧ w'.cell? ⟨wr.heap.size + 2, 4, none⟩ = some (.int .i64 (kb)) ∧ w'.cell? ⟨wr.heap.size + 2, 5, none⟩ = some (.int .i64 (kc)) ∧ w'.cell? ⟨wr.heap.size + 2, 6, none⟩ = some (.int .i64 (kd)) ∧ w'.cell? ⟨wr.heap.size + 1, 0, none⟩ = some (.int .i64 (kt)) ∧ w'.cell? ⟨wr.heap.size + 1, 1, none⟩ = some (.int .i64 (kv / 4 + k)) ∧ w'.cell? ⟨wr.heap.size + 1, 2, none⟩ = some (.int .i64 (kh)) ∧ w'.cell? ⟨wr.heap.size + 1, 3, none⟩ = some (.int .i64 (ka)) ∧ w'.cell? ⟨wr.heap.size + 1, 4, none⟩ = some (.int .i64 (kb)) ∧ w'.cell? ⟨wr.heap.size + 1, 5, none⟩ = some (.int .i64 (kc)) ∧ w'.cell? ⟨wr.heap.size + 1, 6, none⟩ = some (.int .i64 (kd))) ((go_split_ands; first | exact Sx.cells (Sx.drew SV.out) | exact Sx.cells (by assumption) | exact Sx.cells (Sx.alloc (by assumption) _)))
              (first
                | (go_split_ands; refine step_append_pair (w0 := w) (B := B) (B1 := B1) (r := (.slice (some ⟨g, 0, none⟩) N cap)) (rs := rs) (Y := wr.heap.size + 2) (Z := wr.heap.size + 1) (yk := (⟨kt + n, kv / 4, kh, ka, kb, kc, kd⟩ : Ky)) (zk := (⟨kt, kv / 4 + k, kh, ka, kb, kc, kd⟩ : Ky)) (by rfl) (.tmp 54) (.tmp 56) (by rfl) (m + 1) u12 _ (laN n rs m) _ (⟨kt + n, kv / 4, kh, ka, kb, kc, kd⟩ : Ky) (by rfl) (by first | exact PD.out | exact PD.out.alloc _ | exact (PD.out.alloc _).alloc _ | exact pb.swap | exact pb.swap.alloc _) (V.heap.size) (by rfl) (by first | exact has_new (w := V) rfl | exact (has_new (w := V) rfl).alloc (.cells (kCells ⟨kt, kv / 4 + k, kh, ka, kb, kc, kd⟩) 26) | exact has_far gb ((has_new (w := V) rfl).alloc (.cells (kCells ⟨kt, kv / 4 + k, kh, ka, kb, kc, kd⟩) 26)) (fun e => by have := GLT.out _ e; have := VS.out; omega)) LEN.out FEW.out (by assumption) LY.out ?_; intro g1 cap1 wa pa ga sa)
                | (go_split_ands; refine step_append_pair (w0 := w) (B := B) (B1 := B1) (r := (.slice (some ⟨g, 0, none⟩) N cap)) (rs := rs) (Y := wr.heap.size + 2) (Z := wr.heap.size + 1) (yk := (⟨kt + n, kv / 4, kh, ka, kb, kc, kd⟩ : Ky)) (zk := (⟨kt, kv / 4 + k, kh, ka, kb, kc, kd⟩ : Ky)) (by rfl) (.tmp 54) (.tmp 56) (by rfl) (m + 1) u12 _ (laN n rs m) _ (⟨kt + n, kv / 4, kh, ka, kb, kc, kd⟩ : Ky) (by rfl) (by first | exact PD.out | exact PD.out.alloc _ | exact (PD.out.alloc _).alloc _ | exact pb.swap | exact pb.swap.alloc _) (V.heap.size + 1) (by rfl) (by first | exact has_new (w := V.alloc (.cells (kCells ⟨kt, kv / 4 + k, kh, ka, kb, kc, kd⟩) 26)) (by simp) | exact has_far gb (has_new (w := V.alloc (.cells (kCells ⟨kt, kv / 4 + k, kh, ka, kb, kc, kd⟩) 26)) (by simp)) (fun e => by have := GLT.out _ e; have := VS.out; omega)) LEN.out FEW.out (by assumption) LY.out ?_; intro g1 cap1 wa pa ga sa)
                | (go_split_ands; refine step_append_pair (w0 := w) (B := B) (B1 := B1) (r := (.slice (some ⟨g, 0, none⟩) N cap)) (rs := rs) (Y := wr.heap.size + 2) (Z := wr.heap.size + 1) (yk := (⟨kt + n, kv / 4, kh, ka, kb, kc, kd⟩ : Ky)) (zk := (⟨kt, kv / 4 + k, kh, ka, kb, kc, kd⟩ : Ky)) (by rfl) (.tmp 54) (.tmp 56) (by rfl) (m + 1) u12 _ (laN n rs m) _ (⟨kt + n, kv / 4, kh, ka, kb, kc, kd⟩ : Ky) (by rfl) (by first | exact PD.out | exact PD.out.alloc _ | exact (PD.out.alloc _).alloc _ | exact pb.swap | exact pb.swap.alloc _) (wb.heap.size) (by rfl) (by first | exact has_new (w := wb) rfl) LEN.out FEW.out (by assumption) LY.out ?_; intro g1 cap1 wa pa ga sa)
                | (go_split_ands; refine step_append_pair (w0 := w) (B := B) (B1 := B1) (r := (.slice (some ⟨g, 0, none⟩) N cap)) (rs := rs) (Y := wr.heap.size + 2) (Z := wr.heap.size + 1) (yk := (⟨kt + n, kv / 4, kh, ka, kb, kc, kd⟩ : Ky)) (zk := (⟨kt, kv / 4 + k, kh, ka, kb, kc, kd⟩ : Ky)) (by rfl) (.tmp 58) (.tmp 60) (by rfl) (m + 1) u13 _ (grN k rs m) _ (⟨kt, kv / 4 + k, kh, ka, kb, kc, kd⟩ : Ky) (by rfl) (by first | exact PD.out.swap | exact PD.out.swap.alloc _ | exact (PD.out.swap.alloc _).alloc _ | exact pa.swap | exact pa.swap.alloc _) (V.heap.size) (by rfl) (by first | exact has_new (w := V) rfl | exact (has_new (w := V) rfl).alloc (.cells (kCells ⟨kt + n, kv / 4, kh, ka, kb, kc, kd⟩) 26) | exact has_far ga ((has_new (w := V) rfl).alloc (.cells (kCells ⟨kt + n, kv / 4, kh, ka, kb, kc, kd⟩) 26)) (fun e => by have := LLT.out _ e; have := VS.out; omega)) LENG.out FEW.out (by assumption) GY.out ?_; intro g2 cap2 wb pb gb sb)
                | (go_split_ands; refine step_append_pair (w0 := w) (B := B) (B1 := B1) (r := (.slice (some ⟨g, 0, none⟩) N cap)) (rs := rs) (Y := wr.heap.size + 2) (Z := wr.heap.size + 1) (yk := (⟨kt + n, kv / 4, kh, ka, kb, kc, kd⟩ : Ky)) (zk := (⟨kt, kv / 4 + k, kh, ka, kb, kc, kd⟩ : Ky)) (by rfl) (.tmp 58) (.tmp 60) (by rfl) (m + 1) u13 _ (grN k rs m) _ (⟨kt, kv / 4 + k, kh, ka, kb, kc, kd⟩ : Ky) (by rfl) (by first | exact PD.out.swap | exact PD.out.swap.alloc _ | exact (PD.out.swap.alloc _).alloc _ | exact pa.swap | exact pa.swap.alloc _) (V.heap.size + 1) (by rfl) (by first | exact has_new (w := V.alloc (.cells (kCells ⟨kt + n, kv / 4, kh, ka, kb, kc, kd⟩) 26)) (by simp) | exact has_far ga (has_new (w := V.alloc (.cells (kCells ⟨kt + n, kv / 4, kh, ka, kb, kc, kd⟩) 26)) (by simp)) (fun e => by have := LLT.out _ e; have := VS.out; omega)) LENG.out FEW.out (by assumption) GY.out ?_; intro g2 cap2 wb pb gb sb)
                | (go_split_ands; refine step_append_pair (w0 := w) (B := B) (B1 := B1) (r := (.slice (some ⟨g, 0, none⟩) N cap)) (rs := rs) (Y := wr.heap.size + 2) (Z := wr.heap.size + 1) (yk := (⟨kt + n, kv / 4, kh, ka, kb, kc, kd⟩ : Ky)) (zk := (⟨kt, kv / 4 + k, kh, ka, kb, kc, kd⟩ : Ky)) (by rfl) (.tmp 58) (.tmp 60) (by rfl) (m + 1) u13 _ (grN k rs m) _ (⟨kt, kv / 4 + k, kh, ka, kb, kc, kd⟩ : Ky) (by rfl) (by first | exact PD.out.swap | exact PD.out.swap.alloc _ | exact (PD.out.swap.alloc _).alloc _ | exact pa.swap | exact pa.swap.alloc _) (wa.heap.size) (by rfl) (by first | exact has_new (w := wa) rfl) LENG.out FEW.out (by assumption) GY.out ?_; intro g2 cap2 wb pb gb sb))
            all_goals
              go_wp2
              go_roundw
              case rel => exact ⟨m + 1, by omega, by go_num, by rw [EL.out, EG.out]; first | assumption | exact Pair.swap (by assumption), (show Sx w B B1 (.slice (some ⟨g, 0, none⟩) N cap) rs (wr.heap.size + 2) (wr.heap.size + 1) (⟨kt + n, kv / 4, kh, ka, kb, kc, kd⟩ : Ky) (⟨kt, kv / 4 + k, kh, ka, kb, kc, kd⟩ : Ky) _ by assumption).own, (show Sx w B B1 (.slice (some ⟨g, 0, none⟩) N cap) rs (wr.heap.size + 2) (wr.heap.size + 1) (⟨kt + n, kv / 4, kh, ka, kb, kc, kd⟩ : Ky) (⟨kt, kv / 4 + k, kh, ka, kb, kc, kd⟩ : Ky) _ by assumption).below, (show Sx w B B1 (.slice (some ⟨g, 0, none⟩) N cap) rs (wr.heap.size + 2) (wr.heap.size + 1) (⟨kt + n, kv / 4, kh, ka, kb, kc, kd⟩ : Ky) (⟨kt, kv / 4 + k, kh, ka, kb, kc, kd⟩ : Ky) _ by assumption).size⟩
              case measure => simp [intOf]; omega
      · obtain rfl : m = N := by omega
        obtain ⟨gl, cl, rfl⟩ := hpp.l.shape (by rw [laN_length]; omega)
        rw [laN_length] at hpp ⊢
        have hgl := hpp.l.base
        have R0 : Hid (∃ qs : List Ky, qs.length = m ∧ (∀ j, j < 0 → ky qs j = st (ky rs j)) ∧ (∀ j, 0 ≤ j → j < m → ky qs j = ky rs j) ∧ Own wr B (.slice (some ⟨g, 0, none⟩) m cap) qs ∧ Own wr B1 (.slice (some ⟨gl, 0, none⟩) m cl) (laN n rs m) ∧ Own wr B1 u13 (grN k rs m) ∧ Below B w wr ∧ B1 ≤ wr.heap.size) :=
          Lib.hid ⟨rs, HN.out, fun j hj => by omega, fun j _ _ => rfl, hown, hpp.l, hpp.g, hb, hsz⟩
        have hne : g ≠ gl := by omega
        have hne' : gl ≠ g := by omega
        clear hpp hown hb hsz hgl
        go_wp2
        go_loopw [18, 65] (fun _ i wr => ∃ (j : Nat), j ≤ m ∧ i = .int .i64 j ∧ ∃ qs : List Ky, qs.length = m ∧ (∀ i, i < j → ky qs i = st (ky rs i)) ∧ (∀ i, j ≤ i → i < m → ky qs i = ky rs i) ∧ Own wr B (.slice (some ⟨g, 0, none⟩) m cap) qs ∧ Own wr B1 (.slice (some ⟨gl, 0, none⟩) m cl) (laN n rs m) ∧ Own wr B1 u13 (grN k rs m) ∧ Below B w wr ∧ B1 ≤ wr.heap.size) (fun _ i _ => m - (intOf i).toNat)
        case atStart => exact ⟨0, by omega, rfl, R0.out⟩
        case round =>
          clear R0
          obtain ⟨j, hj, rfl, qs, hq, hdone, hleft, hown, hla, hgr, hb, hsz⟩ := hrel
          by_cases hlj : j < m
          · have hrl := hla.row (by rw [laN_length]; omega) (by rw [laN_length]; omega)
            have d1 := hrl.c1 j (by rw [laN_length]; exact hlj)
            have d2 := hrl.c2 j (by rw [laN_length]; exact hlj)
            have d3 := hrl.c3 j (by rw [laN_length]; exact hlj)
            have d4 := hrl.c4 j (by rw [laN_length]; exact hlj)
            have d5 := hrl.c5 j (by rw [laN_length]; exact hlj)
            have d6 := hrl.c6 j (by rw [laN_length]; exact hlj)
            have hrr := hown.row (by omega) (by omega)
            have c1 := hrr.c1 j (by omega)
            have c2 := hrr.c2 j (by omega)
            have c3 := hrr.c3 j (by omega)
            have c4 := hrr.c4 j (by omega)
            have c5 := hrr.c5 j (by omega)
            have c6 := hrr.c6 j (by omega)
            rw [Nat.zero_add] at c1 c2 c3 c4 c5 c6 d1 d2 d3 d4 d5 d6
            rw [laN_at hlj] at d1 d2 d3 d4 d5 d6
            have fz := hown.fro hq
            have o1 : (j : Int) < m := by omega
            obtain ⟨q, hq0⟩ : ∃ q, st (ky rs j) = q := ⟨_, rfl⟩
            rw [hq0] at d1 d2 d3 d4 d5 d6
            obtain ⟨st0, sv, sh, sa, sb, sc, sd⟩ := q
            simp only [lat] at d1 d2 d3 d4 d5 d6
            have HQ0 := Lib.hid hq0
            have HQ := Lib.hid hq
            have HD := Lib.hid hdone
            have HLF := Lib.hid hleft
            have HO := Lib.hid hown
            have HLA := Lib.hid hla
            have HGR := Lib.hid hgr
            have HB := Lib.hid hb
            clear hrl hrr hq0 hq hdone hleft hown hla hgr hb
            have R := Lib.hid (shift_put HQ.out hlj HD.out HLF.out HQ0.out HO.out HLA.out HGR.out HB.out hsz hlt.2 rfl)
            clear HQ0 HQ HD HLF HO HLA HGR HB hsz
            go_wp2_with fail
            go_region
            go_wp2
            go_roundw
            case rel => exact ⟨j + 1, by omega, by go_num, R.out⟩
            case measure => simp [intOf]; omega
          · obtain rfl : j = m := by omega
            have hla' : (laN n rs j).length = qs.length := by rw [laN_length, hq]
            have hgr' : (grN k rs j).length = qs.length := by rw [grN_length, hq]
            obtain ⟨a, ha, a0, a1⟩ : ∃ x, bits .and .i64 t 255 = x ∧ 0 ≤ x ∧ x ≤ 255 := ⟨_, rfl, by rw [and_byte]; omega, by rw [and_byte]; omega⟩
            have hNN := HN.out
            have vb : ∀ i, i < qs.length → -33554432 ≤ (ky qs i).v ∧ (ky qs i).v ≤ 33554432 := fun i hi => by
              rw [hdone i (by omega), st_v]; have := HR.out.val i (by omega); omega
            have hb' : ∀ i, i < qs.length → 0 ≤ (ky qs i).h ∧ (ky qs i).h ≤ 1 := fun i hi => by
              have hq1 := HR.out.how i (by omega)
              rw [hdone i (by omega)]; exact st_h _ hq1.1 hq1.2
            have tb : ∀ i, i < qs.length → -1000 ≤ (ky qs i).t ∧ (ky qs i).t ≤ 1000 := fun i hi => by
              have h1 := HR.out.tick i (by omega)
              have h2 := HR.out.top
              have h3 := HR.out.few
              rw [hdone i (by omega), st_t]; omega
            have e1 : atk (laN n rs j) (a + n) 5 = atk qs a 5 := atk_lat hla' (fun i hi => by rw [laN_at (by omega), hdone i (by omega)]) tb (by omega) (by omega) n0 (by omega)
            have e2 : atk (grN k rs j) a 0 = atk qs a 0 + k := atk_grt hgr' (by omega) (fun i hi => by rw [grN_at (by omega), hdone i (by omega)]) vb hb' (by omega) (by omega)
            obtain ⟨X0, X1⟩ := atk_bd (t := a) (by omega) vb hb'
            have SA := Lib.hid (hla.sl (by rw [laN_length]; omega))
            have SG := Lib.hid (hgr.sl (by rw [grN_length]; omega))
            have SR := Lib.hid (hown.sl (by omega))
            have HB := Lib.hid hb
            obtain ⟨X, hX⟩ : ∃ X, atk qs a 0 = X := ⟨_, rfl⟩
            rw [hX] at X0 X1 e2
            have E1 := Lib.hid e1
            have E2 := Lib.hid e2
            have HX := Lib.hid hX
            have o0 : ¬ (j : Int) = 0 := by omega
            have o00 : ¬ j = 0 := by omega
            clear e1 e2 hX hla hgr hown hb vb hb' tb hdone hleft hla' hgr' hNN hq
            go_wp2_with fail
            refine (k_at SA.out (a + n) 5).mono ?_
            rw [E1.out]
            rintro e w3 ⟨rfl, hq3⟩
            have SG3 := Lib.hid (SG.out.below hq3)
            have SR3 := Lib.hid (SR.out.below hq3)
            have HB3 := Lib.hid (HB.out.trans (hq3.mono (by omega)))
            have s3 : B1 ≤ w3.heap.size := by have := hq3.size; omega
            clear hq3 SG SR HB SA
            go_wp2_with fail
            refine (k_at SR3.out a 5).mono ?_
            rintro e w4 ⟨rfl, hq4⟩
            have SG4 := Lib.hid (SG3.out.below hq4)
            have SR4 := Lib.hid (SR3.out.below hq4)
            have HB4 := Lib.hid (HB3.out.trans (hq4.mono (by omega)))
            have s4 : B1 ≤ w4.heap.size := by have := hq4.size; omega
            clear hq4 SG3 SR3 HB3
            go_wp2_with fail
            refine (k_at SG4.out a 0).mono ?_
            rw [E2.out]
            rintro e w5 ⟨rfl, hq5⟩
            have SR5 := Lib.hid (SR4.out.below hq5)
            have HB5 := Lib.hid (HB4.out.trans (hq5.mono (by omega)))
            have s5 : B1 ≤ w5.heap.size := by have := hq5.size; omega
            clear hq5 SG4 SR4 HB4
            go_wp2_with fail
            refine (k_at SR5.out a 0).mono ?_
            rw [HX.out]
            rintro e w6 ⟨rfl, hq6⟩
            have HB6 := Lib.hid (HB5.out.trans (hq6.mono (by omega)))
            have s6 : B1 ≤ w6.heap.size := by have := hq6.size; omega
            clear hq6 SR5 HB5
            go_wp2_with fail
            refine (known5 _).mono ?_
            rintro e w7 ⟨rfl, hq7⟩
            have HB7 := Lib.hid (HB6.out.trans (hq7.mono (by omega)))
            clear hq7 HB6
            go_wp2
            go_ret
            exact ⟨rfl, HB7.out⟩

end Go.Proofs.Yteikhmendjahnaa
