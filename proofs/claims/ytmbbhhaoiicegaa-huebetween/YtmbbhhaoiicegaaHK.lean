/- Rows of keys of colours; contracts of hue.find, .between, .At: for all keys, ticks and colours what the plain arithmetic says; of the memory nothing that was there turns. A list of keys is 'Csl': a slice of no keys, or one whose keys lie in a row of cells, a thousand at most; the colours' parts are bytes. -/
import Derived.Test.YtmbbhhaoiicegaaHM
import Derived.Test.YtmbbhhaoiicegaaK5
namespace Go.Proofs.Ytmbbhhaoiicegaa
open Go.RowKit
open M

/-- A colour key's cells. -/
abbrev kkCells (k : Ck) : Array Value := #[.int .i64 k.t, .int .u8 k.p.r, .int .u8 k.p.g, .int .u8 k.p.b, .int .u8 k.p.q, .int .i64 k.h, .int .i64 k.a, .int .i64 k.b, .int .i64 k.c, .int .i64 k.d]
/-- A row of colour keys lies in block g from cell o on. -/
structure Crow (w : World) (g o : Nat) (ks : List Ck) : Prop where
  few : ks.length ≤ 1000
  ok : ∀ i, i < ks.length → (ck ks i).p.Ok
  c0 : ∀ i, i < ks.length → w.cell? ⟨g, o + i * 10, none⟩ = some (.int .i64 (ck ks i).t)
  c1 : ∀ i, i < ks.length → w.cell? ⟨g, o + i * 10 + 1, none⟩ = some (.int .u8 (ck ks i).p.r)
  c2 : ∀ i, i < ks.length → w.cell? ⟨g, o + i * 10 + 2, none⟩ = some (.int .u8 (ck ks i).p.g)
  c3 : ∀ i, i < ks.length → w.cell? ⟨g, o + i * 10 + 3, none⟩ = some (.int .u8 (ck ks i).p.b)
  c4 : ∀ i, i < ks.length → w.cell? ⟨g, o + i * 10 + 4, none⟩ = some (.int .u8 (ck ks i).p.q)
  c5 : ∀ i, i < ks.length → w.cell? ⟨g, o + i * 10 + 5, none⟩ = some (.int .i64 (ck ks i).h)
  c6 : ∀ i, i < ks.length → w.cell? ⟨g, o + i * 10 + 6, none⟩ = some (.int .i64 (ck ks i).a)
  c7 : ∀ i, i < ks.length → w.cell? ⟨g, o + i * 10 + 7, none⟩ = some (.int .i64 (ck ks i).b)
  c8 : ∀ i, i < ks.length → w.cell? ⟨g, o + i * 10 + 8, none⟩ = some (.int .i64 (ck ks i).c)
  c9 : ∀ i, i < ks.length → w.cell? ⟨g, o + i * 10 + 9, none⟩ = some (.int .i64 (ck ks i).d)
theorem Crow.below {w w' : World} {g o B : Nat} {ks : List Ck} (h : Crow w g o ks) (hb : Below B w w') (hg : g < B) : Crow w' g o ks :=
  ⟨h.few, h.ok, fun i hi => (hb.cell (p := ⟨g, _, _⟩) hg).trans (h.c0 i hi), fun i hi => (hb.cell (p := ⟨g, _, _⟩) hg).trans (h.c1 i hi), fun i hi => (hb.cell (p := ⟨g, _, _⟩) hg).trans (h.c2 i hi), fun i hi => (hb.cell (p := ⟨g, _, _⟩) hg).trans (h.c3 i hi), fun i hi => (hb.cell (p := ⟨g, _, _⟩) hg).trans (h.c4 i hi), fun i hi => (hb.cell (p := ⟨g, _, _⟩) hg).trans (h.c5 i hi), fun i hi => (hb.cell (p := ⟨g, _, _⟩) hg).trans (h.c6 i hi), fun i hi => (hb.cell (p := ⟨g, _, _⟩) hg).trans (h.c7 i hi), fun i hi => (hb.cell (p := ⟨g, _, _⟩) hg).trans (h.c8 i hi), fun i hi => (hb.cell (p := ⟨g, _, _⟩) hg).trans (h.c9 i hi)⟩
theorem Crow.lt {w : World} {g o : Nat} {ks : List Ck} (h : Crow w g o ks) (hn : 0 < ks.length) : g < w.heap.size := World.block_lt_of_cell? w _ (h.c0 0 hn)
theorem Crow.later {W : World} {g o : Nat} {ks : List Ck} (h : Crow W g o ks) (hn : 0 < ks.length) (z : Later W) : Crow z.to g o ks := h.below z.below (h.lt hn)
/-- The slice's value v holds just these keys. -/
def Csl (w : World) (v : Value) (ks : List Ck) : Prop := (ks = [] ∧ ∃ ao cap, v = .slice ao 0 cap) ∨ (0 < ks.length ∧ ∃ g o cap, v = .slice (some ⟨g, o, none⟩) ks.length cap ∧ Crow w g o ks)
theorem Csl.below {w w' : World} {v : Value} {ks : List Ck} (h : Csl w v ks) (hb : Below w.heap.size w w') : Csl w' v ks := by
  rcases h with h | ⟨h0, g, o, cap, hv, hr⟩
  · exact Or.inl h
  · exact Or.inr ⟨h0, g, o, cap, hv, hr.below hb (hr.lt h0)⟩
theorem Has.thaw {w : World} {g : Nat} {cs : Array Value} {t : TypeId} (h : Has w g cs t) (k : Nat) : w.frozen? ⟨g, k, none⟩ = false := by
  unfold Has at h
  simp [World.frozen?, h]

theorem four_below {B g : Nat} {w V : World} (h : Below B w V) (hg : B ≤ g) (a b c d : Value) :
    Below B w ((((V.setCell ⟨g, 0, none⟩ a).setCell ⟨g, 1, none⟩ b).setCell ⟨g, 2, none⟩ c).setCell ⟨g, 3, none⟩ d) := (((h.setCell hg _).setCell hg _).setCell hg _).setCell hg _

theorem h_find1 (g o cap : Nat) (ks : List Ck) (t : Int) (w : World) (hr : Crow w g o ks) :
    Calls Try.prog 23 #[.slice (some ⟨g, o, none⟩) ks.length cap, .int .i64 t] w fun e w' => e = .returned (.int .i64 (find (bares ks) t)) ∧ w = w' := by
  have hf := hr.few
  have HR := Lib.hid hr
  clear hr
  go_enter Try.func23, Try.ntmps23
  go_wp2
  go_loop [4, 5] (fun _ i => ∃ n : Nat, n ≤ ks.length ∧ i = .int .i64 ((n : Int) - 1) ∧ find (bares ks) t = findN (bares ks) t n) (fun _ i => (intOf i + 1).toNat)
  case atStart => exact ⟨ks.length, by omega, rfl, by unfold find; rw [bares_length]⟩
  case round =>
    obtain ⟨n, hn, rfl, he⟩ := hrel
    cases n with
    | zero =>
      rw [he]
      have e0 : findN (bares ks) t 0 = -1 := rfl
      rw [e0]
      go_wp2
      go_ret
      exact ⟨rfl, rfl⟩
    | succ n =>
      have c0 := HR.out.c0 n (by omega)
      have e1 : ((n + 1 : Nat) : Int) - 1 = (n : Int) := by omega
      rw [e1]
      by_cases hc : (ck ks n).t ≤ t
      · rw [findN_hit (by rw [ky_bares]; exact hc)] at he
        rw [he]
        go_wp2
        go_ret
        exact ⟨rfl, rfl⟩
      · rw [findN_miss (by rw [ky_bares]; exact hc)] at he
        have HE := Lib.hid he
        clear he
        go_wp2
        go_round
        case rel => exact ⟨n, by omega, rfl, HE.out⟩
        case measure => simp [intOf]
set_option maxHeartbeats 1000000 in
theorem h_between (x y : Ck) (t : Int) (w : World) (hx : x.p.Ok) (hy : y.p.Ok) :
    Calls Try.prog 24 #[.agg (kkCells x), .agg (kkCells y), .int .i64 t] w fun e w' => e = .returned (.agg (cCells (ctween x y t))) ∧ Below w.heap.size w w' := by
  obtain ⟨c, hc⟩ : ∃ c, ctween x y t = c := ⟨_, rfl⟩
  rw [hc]
  unfold ctween at hc
  obtain ⟨t1, ⟨r1, g1, b1, q1⟩, h1, a1, e1, f1, d1⟩ := x
  obtain ⟨t2, ⟨r2, g2, b2, q2⟩, h2, a2, e2, f2, d2⟩ := y
  simp only at hc hx hy
  have MX := Lib.hid (fun p w => h_mix ⟨r1, g1, b1, q1⟩ ⟨r2, g2, b2, q2⟩ p w hx hy)
  have HC := Lib.hid hc
  clear hx hy hc
  obtain ⟨cr, cg, cb, cq⟩ := c
  go_enter Try.func24, Try.ntmps24
  go_wp2_with fail
  obtain ⟨W, hW⟩ : ∃ W, (((w.alloc (.cells (kkCells ⟨t1, ⟨r1, g1, b1, q1⟩, h1, a1, e1, f1, d1⟩) 31)).alloc (.cells (kkCells ⟨t2, ⟨r2, g2, b2, q2⟩, h2, a2, e2, f2, d2⟩) 31)).alloc (.cells #[.int .u8 0, .int .u8 0, .int .u8 0, .int .u8 0] 24)) = W := ⟨_, rfl⟩
  have H0 : Has W w.heap.size (kkCells ⟨t1, ⟨r1, g1, b1, q1⟩, h1, a1, e1, f1, d1⟩) 31 := by rw [← hW]; exact ((has_new rfl).alloc _).alloc _
  have H1 : Has W (w.heap.size + 1) (kkCells ⟨t2, ⟨r2, g2, b2, q2⟩, h2, a2, e2, f2, d2⟩) 31 := by rw [← hW]; exact (has_new (by simp)).alloc _
  have H2 : Has W (w.heap.size + 1 + 1) #[.int .u8 0, .int .u8 0, .int .u8 0, .int .u8 0] 24 := by rw [← hW]; exact has_new (by simp)
  have HB : Below w.heap.size w W := by rw [← hW]; exact (((Below.refl _ _).alloc (Nat.le_refl _) _).alloc (by simp) _).alloc (by simp; omega) _
  rw [hW]
  have r0' := Later.read H0 0 _ rfl
  have r1' := Later.read H0 1 _ rfl
  have r2' := Later.read H0 2 _ rfl
  have r3' := Later.read H0 3 _ rfl
  have r4' := Later.read H0 4 _ rfl
  have r5' := Later.read H0 5 _ rfl
  have r6' := Later.read H0 6 _ rfl
  have r7' := Later.read H0 7 _ rfl
  have r8' := Later.read H0 8 _ rfl
  have r9' := Later.read H0 9 _ rfl
  have s0' := Later.read H1 0 _ rfl
  have s1' := Later.read H1 1 _ rfl
  have s2' := Later.read H1 2 _ rfl
  have s3' := Later.read H1 3 _ rfl
  have s4' := Later.read H1 4 _ rfl
  have K2 := Lib.hid (fun z : Later W => H2.below z.below H2.lt)
  have HBB := Lib.hid HB
  clear H0 H1 H2 HB hW
  refine wp_region_tail_lit (C := fun w' => ∃ z : Later W, w' = z.to) 16 (by kernel_rfl) (by kernel_rfl) (by kernel_rfl) (by kernel_rfl) ⟨⟨_, below_drew (Below.refl _ _)⟩, rfl⟩ ?_
  simp only [List.take_succ_cons, List.take_zero, List.drop_succ_cons, List.drop_zero]
  repeat (go_big_quiet_step (first | (go_at_call 31; exact Later.calls (below_of (e_part _ _ _ _))) | (go_at_call 30; exact Later.calls (k_goes _ _ _ _ _ _ _)) | (go_at_call 7; exact Later.calls (MX.out _ _))))
  refine wpQuiet_nil ?_
  rintro _ ⟨z, rfl⟩
  rw [HC.out]
  have k2 := K2.out z
  obtain ⟨V, hV⟩ : ∃ V, z.to = V := ⟨_, rfl⟩
  have hb : Below w.heap.size w V := by rw [← hV]; exact HBB.out.trans (z.below.mono HBB.out.size)
  rw [hV] at k2 ⊢
  have v0 := k2.cell 0 _ rfl
  have v1 := k2.cell 1 _ rfl
  have v2 := k2.cell 2 _ rfl
  have v3 := k2.cell 3 _ rfl
  have fz := k2.thaw
  have HV := Lib.hid hb
  clear hV hb k2 K2 HBB HC MX r0' r1' r2' r3' r4' r5' r6' r7' r8' r9' s0' s1' s2' s3' s4'
  go_wp2
  refine bodyPost_ret (v := .agg (cCells ⟨cr, cg, cb, cq⟩)) (by simp [results, Try.results24, go_sem, v0, v1, v2, v3]) rfl ⟨rfl, ?_⟩
  exact four_below HV.out (by omega) _ _ _ _
theorem h_at0 (ao : Option Addr) (cap : Nat) (t : Int) (no : Cr) (w : World) :
    Calls Try.prog 15 #[.slice ao 0 cap, .int .i64 t, .agg (cCells no)] w fun e w' => e = .returned (.agg (cCells no)) ∧ Below w.heap.size w w' := by
  obtain ⟨nr, ng, nb, nq⟩ := no
  go_enter Try.func15, Try.ntmps15
  go_wp2
  refine bodyPost_ret (v := .agg (cCells ⟨nr, ng, nb, nq⟩)) (by simp [results, Try.results15, go_sem]) rfl ⟨rfl, ?_⟩
  exact ((Below.refl _ _).alloc (Nat.le_refl _) _).alloc (by simp) _

set_option maxHeartbeats 1000000 in
theorem h_at1 (g o cap : Nat) (ks : List Ck) (t : Int) (no : Cr) (w : World) (hr : Crow w g o ks) (hn : 0 < ks.length) :
    Calls Try.prog 15 #[.slice (some ⟨g, o, none⟩) ks.length cap, .int .i64 t, .agg (cCells no)] w fun e w' => e = .returned (.agg (cCells (atc ks t no))) ∧ Below w.heap.size w w' := by
  have hf := hr.few
  have cf := fun w' (hb : Crow w' g o ks) => h_find1 g o cap ks t w' hb
  have hW2 : Below w.heap.size w ((w.alloc (.cells (cCells no) 24)).alloc (.cells #[.int .u8 0, .int .u8 0, .int .u8 0, .int .u8 0] 24)) := ((Below.refl _ _).alloc (Nat.le_refl _) _).alloc (by simp) _
  have hr2 := hr.below hW2 (hr.lt hn)
  have hrs : Has ((w.alloc (.cells (cCells no) 24)).alloc (.cells #[.int .u8 0, .int .u8 0, .int .u8 0, .int .u8 0] 24)) (w.heap.size + 1) #[.int .u8 0, .int .u8 0, .int .u8 0, .int .u8 0] 24 := has_new (by simp)
  obtain ⟨W, hW⟩ : ∃ W, (w.alloc (.cells (cCells no) 24)).alloc (.cells #[.int .u8 0, .int .u8 0, .int .u8 0, .int .u8 0] 24) = W := ⟨_, rfl⟩
  rw [hW] at hW2 hr2 hrs
  have v0 := hrs.cell 0 _ rfl
  have v1 := hrs.cell 1 _ rfl
  have v2 := hrs.cell 2 _ rfl
  have v3 := hrs.cell 3 _ rfl
  have fz := hrs.thaw
  have HW2 := Lib.hid hW2
  have HWW := Lib.hid hW
  have HRS := Lib.hid hrs
  clear hrs hW2 hW
  rcases atc_cases ks t no hn with ⟨e1, e2⟩ | ⟨i, e1, hi, e2⟩ | ⟨i, e1, hi, e2⟩
  · rw [e2]
    rw [e1] at cf
    have c1 := hr2.c1 0 hn
    have c2 := hr2.c2 0 hn
    have c3 := hr2.c3 0 hn
    have c4 := hr2.c4 0 hn
    simp only [Nat.zero_mul, Nat.add_zero] at c1 c2 c3 c4
    have HR := Lib.hid hr2
    have CF := Lib.hid cf
    clear hr hr2 cf e1 e2
    go_enter Try.func15, Try.ntmps15
    go_wp2_with fail
    rw [HWW.out]
    refine (CF.out _ HR.out).mono ?_
    rintro e w' ⟨rfl, rfl⟩
    go_wp2
    refine bodyPost_ret (v := .agg (cCells (ck ks 0).p)) (by simp [results, Try.results15, go_sem, v0, v1, v2, v3]) rfl ⟨rfl, ?_⟩
    exact four_below HW2.out (by omega) _ _ _ _
  · rw [e2]
    rw [e1] at cf
    have c1 := hr2.c1 i (by omega)
    have c2 := hr2.c2 i (by omega)
    have c3 := hr2.c3 i (by omega)
    have c4 := hr2.c4 i (by omega)
    have hl : (ks.length : Int) - 1 = (i : Int) := by omega
    have HR := Lib.hid hr2
    have CF := Lib.hid cf
    clear hr hr2 cf e1 e2
    go_enter Try.func15, Try.ntmps15
    go_wp2_with fail
    rw [HWW.out]
    refine (CF.out _ HR.out).mono ?_
    rintro e w' ⟨rfl, rfl⟩
    go_wp2
    refine bodyPost_ret (v := .agg (cCells (ck ks i).p)) (by simp [results, Try.results15, go_sem, v0, v1, v2, v3]) rfl ⟨rfl, ?_⟩
    exact four_below HW2.out (by omega) _ _ _ _
  · obtain ⟨c, hc⟩ : ∃ c, ctween (ck ks i) (ck ks (i + 1)) t = c := ⟨_, rfl⟩
    rw [e2, hc]
    rw [e1] at cf
    have hr' := hr2.later hn
    have bt := fun w => h_between (ck ks i) (ck ks (i + 1)) t w (hr.ok i (by omega)) (hr.ok (i + 1) (by omega))
    rw [hc] at bt
    have c0 := fun z => (hr' z).c0 i (by omega)
    have c1 := fun z => (hr' z).c1 i (by omega)
    have c2 := fun z => (hr' z).c2 i (by omega)
    have c3 := fun z => (hr' z).c3 i (by omega)
    have c4 := fun z => (hr' z).c4 i (by omega)
    have c5 := fun z => (hr' z).c5 i (by omega)
    have c6 := fun z => (hr' z).c6 i (by omega)
    have c7 := fun z => (hr' z).c7 i (by omega)
    have c8 := fun z => (hr' z).c8 i (by omega)
    have c9 := fun z => (hr' z).c9 i (by omega)
    have d0 := fun z => (hr' z).c0 (i + 1) (by omega)
    have d1 := fun z => (hr' z).c1 (i + 1) (by omega)
    have d2 := fun z => (hr' z).c2 (i + 1) (by omega)
    have d3 := fun z => (hr' z).c3 (i + 1) (by omega)
    have d4 := fun z => (hr' z).c4 (i + 1) (by omega)
    have d5 := fun z => (hr' z).c5 (i + 1) (by omega)
    have d6 := fun z => (hr' z).c6 (i + 1) (by omega)
    have d7 := fun z => (hr' z).c7 (i + 1) (by omega)
    have d8 := fun z => (hr' z).c8 (i + 1) (by omega)
    have d9 := fun z => (hr' z).c9 (i + 1) (by omega)
    have o1 : (i : Int) < ks.length := by omega
    have o2 : (i : Int) + 1 < ks.length := by omega
    have o3 : ¬ ((i : Int) = ks.length - 1) := by omega
    have HR := Lib.hid hr2
    have CF := Lib.hid cf
    have BT := Lib.hid bt
    clear hr hr2 hr' cf bt e1 e2 v0 v1 v2 v3 fz hc
    obtain ⟨cr, cg, cb, cq⟩ := c
    go_enter Try.func15, Try.ntmps15
    go_wp2_with fail
    rw [HWW.out]
    refine (CF.out _ HR.out).mono ?_
    rintro e w' ⟨rfl, rfl⟩
    go_wp2_with fail
    refine wp_region_tail_lit (C := fun w' => ∃ z : Later W, w' = z.to) 11 (by kernel_rfl) (by kernel_rfl) (by kernel_rfl) (by kernel_rfl) ⟨⟨_, below_drew (Below.refl _ _)⟩, rfl⟩ ?_
    simp only [List.take_succ_cons, List.take_zero, List.drop_succ_cons, List.drop_zero]
    repeat (go_big_quiet_step (first | (go_at_call 24; exact Later.calls (BT.out _))))
    refine wpQuiet_nil ?_
    rintro _ ⟨z, rfl⟩
    have k2 := HRS.out.below z.below HRS.out.lt
    have hb : Below w.heap.size w z.to := HW2.out.trans (z.below.mono HW2.out.size)
    obtain ⟨V, hV⟩ : ∃ V, z.to = V := ⟨_, rfl⟩
    rw [hV] at k2 hb ⊢
    have v0 := k2.cell 0 _ rfl
    have v1 := k2.cell 1 _ rfl
    have v2 := k2.cell 2 _ rfl
    have v3 := k2.cell 3 _ rfl
    have fz := k2.thaw
    have HV := Lib.hid hb
    clear hV hb k2 c0 c1 c2 c3 c4 c5 c6 c7 c8 c9 d0 d1 d2 d3 d4 d5 d6 d7 d8 d9
    go_wp2
    refine bodyPost_ret (v := .agg (cCells ⟨cr, cg, cb, cq⟩)) (by simp [results, Try.results15, go_sem, v0, v1, v2, v3]) rfl ⟨rfl, ?_⟩
    exact four_below HV.out (by omega) _ _ _ _
theorem h_at {v : Value} {ks : List Ck} {w : World} (h : Csl w v ks) (t : Int) (no : Cr) :
    Calls Try.prog 15 #[v, .int .i64 t, .agg (cCells no)] w fun e w' => e = .returned (.agg (cCells (atc ks t no))) ∧ Below w.heap.size w w' := by
  rcases h with ⟨rfl, ao, cap, rfl⟩ | ⟨hn, g, o, cap, rfl, hr⟩
  · exact h_at0 ao cap t no w
  · exact h_at1 g o cap ks t no w hr hn

end Go.Proofs.Ytmbbhhaoiicegaa
