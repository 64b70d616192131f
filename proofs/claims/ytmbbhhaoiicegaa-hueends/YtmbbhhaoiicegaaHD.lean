/- Contract of mutoscoperef5.Color: for all keys of colours what the plain arithmetic says; of the memory nothing that was there turns. -/
import Derived.Test.YtmbbhhaoiicegaaHC
namespace Go.Proofs.Ytmbbhhaoiicegaa
open Go.RowKit
open M

theorem r5_color0 (ao : Option Addr) (cap : Nat) (t : Int) (no : Cr) (w : World) :
    Calls Try.prog 22 #[.slice ao 0 cap, .int .i64 t, .agg (cCells no)] w fun e w' => e = .returned (.agg (cCells no)) ∧ Below w.heap.size w w' := by
  obtain ⟨nr, ng, nb, nq⟩ := no
  go_enter Try.func22, Try.ntmps22
  go_wp2
  refine bodyPost_ret (v := .agg (cCells ⟨nr, ng, nb, nq⟩)) (by simp [results, Try.results22, go_sem]) rfl ⟨rfl, ?_⟩
  exact ((Below.refl _ _).alloc (Nat.le_refl _) _).alloc (by simp) _

set_option maxHeartbeats 2000000 in
theorem r5_color1 (g o cap : Nat) (ks : List Ck) (t : Int) (no : Cr) (w : World) (hr : Crow w g o ks) (hn : 0 < ks.length) :
    Calls Try.prog 22 #[.slice (some ⟨g, o, none⟩) ks.length cap, .int .i64 t, .agg (cCells no)] w fun e w' => e = .returned (.agg (cCells (atc ks t no))) ∧ Below w.heap.size w w' := by
  have hf := hr.few
  have hW2 : Below w.heap.size w ((w.alloc (.cells (cCells no) 24)).alloc (.cells #[.int .u8 0, .int .u8 0, .int .u8 0, .int .u8 0] 24)) := ((Below.refl _ _).alloc (Nat.le_refl _) _).alloc (by simp) _
  have hr2 := hr.below hW2 (hr.lt hn)
  have hrs : Has ((w.alloc (.cells (cCells no) 24)).alloc (.cells #[.int .u8 0, .int .u8 0, .int .u8 0, .int .u8 0] 24)) (w.heap.size + 1) #[.int .u8 0, .int .u8 0, .int .u8 0, .int .u8 0] 24 := has_new (by simp)
  obtain ⟨W, hW⟩ : ∃ W, (w.alloc (.cells (cCells no) 24)).alloc (.cells #[.int .u8 0, .int .u8 0, .int .u8 0, .int .u8 0] 24) = W := ⟨_, rfl⟩
  rw [hW] at hW2 hr2 hrs
  have HW2 := Lib.hid hW2
  have HWW := Lib.hid hW
  have HRS := Lib.hid hrs
  have HOK := Lib.hid hr.ok
  have HR := Lib.hid hr2
  obtain ⟨c, hcc⟩ : ∃ c, atc ks t no = c := ⟨_, rfl⟩
  rw [hcc]
  have HCC := Lib.hid hcc
  clear hrs hW2 hW hr hr2 hcc
  go_enter Try.func22, Try.ntmps22
  go_wp2
  rw [HWW.out]
  go_loop [7, 8] (fun k i => ∃ n : Nat, n ≤ ks.length ∧ i = .int .i64 n ∧ k = .int .i64 (findN (bares ks) t n)) (fun _ i => ks.length - (intOf i).toNat)
  case atStart => exact ⟨0, by omega, rfl, rfl⟩
  case round =>
    obtain ⟨n, hnn, rfl, rfl⟩ := hrel
    by_cases hlt : n < ks.length
    · have c0 := HR.out.c0 n hlt
      have o1 : (n : Int) < ks.length := by omega
      by_cases hc : (ck ks n).t ≤ t
      · have he := findN_hit (ks := bares ks) (by rw [ky_bares]; exact hc)
        have HE := Lib.hid he
        clear he
        go_wp2
        go_round
        case rel => exact ⟨n + 1, by omega, by go_num, by rw [HE.out]⟩
        case measure => simp [intOf]; omega
      · have he := findN_miss (ks := bares ks) (by rw [ky_bares]; exact hc)
        have HE := Lib.hid he
        clear he
        go_wp2
        go_round
        case rel => exact ⟨n + 1, by omega, by go_num, by rw [HE.out]⟩
        case measure => simp [intOf]; omega
    · obtain rfl : n = ks.length := by omega
      have ef : findN (bares ks) t ks.length = find (bares ks) t := by unfold find; rw [bares_length]
      rw [ef]
      clear ef hnn hlt
      rcases atc_cases ks t no hn with ⟨e1, e2⟩ | ⟨i, e1, hi, e2⟩ | ⟨i, e1, hi, e2⟩
      · rw [e1]
        have ec : c = (ck ks 0).p := HCC.out.symm.trans e2
        subst ec
        have v0 := HRS.out.cell 0 _ rfl
        have v1 := HRS.out.cell 1 _ rfl
        have v2 := HRS.out.cell 2 _ rfl
        have v3 := HRS.out.cell 3 _ rfl
        have fz := HRS.out.thaw
        have c1 := HR.out.c1 0 hn
        have c2 := HR.out.c2 0 hn
        have c3 := HR.out.c3 0 hn
        have c4 := HR.out.c4 0 hn
        simp only [Nat.zero_mul, Nat.add_zero] at c1 c2 c3 c4
        have o0 : (0 : Int) < ks.length := by omega
        clear e1 e2
        go_wp2
        refine bodyPost_ret (v := .agg (cCells (ck ks 0).p)) (by simp [results, Try.results22, go_sem, v0, v1, v2, v3]) rfl ⟨rfl, ?_⟩
        exact four_below HW2.out (by omega) _ _ _ _
      · rw [e1]
        have ec : c = (ck ks i).p := HCC.out.symm.trans e2
        subst ec
        have v0 := HRS.out.cell 0 _ rfl
        have v1 := HRS.out.cell 1 _ rfl
        have v2 := HRS.out.cell 2 _ rfl
        have v3 := HRS.out.cell 3 _ rfl
        have fz := HRS.out.thaw
        have c1 := HR.out.c1 i (by omega)
        have c2 := HR.out.c2 i (by omega)
        have c3 := HR.out.c3 i (by omega)
        have c4 := HR.out.c4 i (by omega)
        have hl : (ks.length : Int) - 1 = (i : Int) := by omega
        have o1 : (i : Int) < ks.length := by omega
        clear e1 e2
        go_wp2
        refine bodyPost_ret (v := .agg (cCells (ck ks i).p)) (by simp [results, Try.results22, go_sem, v0, v1, v2, v3]) rfl ⟨rfl, ?_⟩
        exact four_below HW2.out (by omega) _ _ _ _
      · have hc : ctween (ck ks i) (ck ks (i + 1)) t = c := e2.symm.trans HCC.out
        rw [e1]
        unfold ctween at hc
        have hr' := HR.out.later hn
        have MX := Lib.hid (fun p w => r5_mix (ck ks i).p (ck ks (i + 1)).p p w (HOK.out i (by omega)) (HOK.out (i + 1) (by omega)))
        have c0 := fun z => (hr' z).c0 i (by omega)
        have c1 := fun z => (hr' z).c1 i (by omega)
        have c2 := fun z => (hr' z).c2 i (by omega)
        have c3 := fun z => (hr' z).c3 i (by omega)
        have c4 := fun z => (hr' z).c4 i (by omega)
        have c5 := fun z => (hr' z).c5 i (by omega)
        have c6 := fun z => (hr' z).c6 i (by omega)
        have c7 := fun z => (hr' z).c7 i (by omega)
        have c8 := fun z => (hr' z).c8 i (by omega)
        have c9 := fun z => (hr' z).c9 i (by omega)
        have d0 := fun z => (hr' z).c0 (i + 1) (by omega)
        have d1 := fun z => (hr' z).c1 (i + 1) (by omega)
        have d2 := fun z => (hr' z).c2 (i + 1) (by omega)
        have d3 := fun z => (hr' z).c3 (i + 1) (by omega)
        have d4 := fun z => (hr' z).c4 (i + 1) (by omega)
        have o1 : (i : Int) < ks.length := by omega
        have o2 : (i : Int) + 1 < ks.length := by omega
        have o3 : ¬ ((i : Int) = ks.length - 1) := by omega
        have HC := Lib.hid hc
        clear hr' e1 e2 hc HCC
        obtain ⟨cr, cg, cb, cq⟩ := c
        go_wp2_with fail
        refine wp_region_tail_lit (C := fun w' => ∃ z : Later W, w' = z.to) 36 (by kernel_rfl) (by kernel_rfl) (by kernel_rfl) (by kernel_rfl) ⟨⟨_, below_drew (Below.refl _ _)⟩, rfl⟩ ?_
        simp only [List.take_succ_cons, List.take_zero, List.drop_succ_cons, List.drop_zero]
        repeat (go_big_quiet_step (first | (go_at_call 29; exact Later.calls (below_of (r5_part _ _ _ _))) | (go_at_call 28; exact Later.calls (r5_goes _ _ _ _ _ _ _)) | (go_at_call 8; exact Later.calls (MX.out _ _))))
        refine wpQuiet_nil ?_
        rintro _ ⟨z, rfl⟩
        rw [HC.out]
        have k2 := HRS.out.below z.below HRS.out.lt
        have hb : Below w.heap.size w z.to := HW2.out.trans (z.below.mono HW2.out.size)
        obtain ⟨V, hV⟩ : ∃ V, z.to = V := ⟨_, rfl⟩
        rw [hV] at k2 hb ⊢
        have v0 := k2.cell 0 _ rfl
        have v1 := k2.cell 1 _ rfl
        have v2 := k2.cell 2 _ rfl
        have v3 := k2.cell 3 _ rfl
        have fz := k2.thaw
        have HV := Lib.hid hb
        clear hV hb k2 c0 c1 c2 c3 c4 c5 c6 c7 c8 c9 d0 d1 d2 d3 d4
        go_wp2
        refine bodyPost_ret (v := .agg (cCells ⟨cr, cg, cb, cq⟩)) (by simp [results, Try.results22, go_sem, v0, v1, v2, v3]) rfl ⟨rfl, ?_⟩
        exact four_below HV.out (by omega) _ _ _ _
theorem r5_color {v : Value} {ks : List Ck} {w : World} (h : Csl w v ks) (t : Int) (no : Cr) :
    Calls Try.prog 22 #[v, .int .i64 t, .agg (cCells no)] w fun e w' => e = .returned (.agg (cCells (atc ks t no))) ∧ Below w.heap.size w w' := by
  rcases h with ⟨rfl, ao, cap, rfl⟩ | ⟨hn, g, o, cap, rfl, hr⟩
  · exact r5_color0 ao cap t no w
  · exact r5_color1 g o cap ks t no w hr hn

end Go.Proofs.Ytmbbhhaoiicegaa
