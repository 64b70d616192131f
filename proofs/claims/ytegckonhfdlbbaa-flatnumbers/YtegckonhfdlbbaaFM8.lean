/- Contract of flat.mapped: for all maps and polys what the plain arithmetic says, in memory of its own; of the memory nothing that was there turns. -/
import Derived.Test.YtegckonhfdlbbaaPP
import Derived.Test.YtegckonhfdlbbaaFMath
namespace Go.Proofs.Ytegckonhfdlbbaa
open Go.RowKit
open M

/-- A path is begun: its list of N zero places in block gs, the path itself in block go. -/
structure OutY (W : World) (B : Nat) (c : Bool) (N gs go : Nat) (V : World) : Prop where
  own : Pown V B (.slice (some ⟨gs, 0, none⟩) N N) (List.replicate N default)
  out : Has V go #[.bool c, .slice (some ⟨gs, 0, none⟩) N N] 43
  lg : W.heap.size ≤ gs
  lo : W.heap.size ≤ go
  ne : gs ≠ go
  below : Below W.heap.size W V
theorem outY_a {W : World} {B N : Nat} {c : Bool} (hB : B ≤ W.heap.size) (hN : N ≤ 1000) : ∃ gs go V, ((W.alloc (.cells (zer N) 35)).alloc (.cells #[.bool c, .slice (some ⟨W.heap.size, 0, none⟩) N N] 43)).drew = V ∧ W.heap.size + 1 = go ∧ W.heap.size = gs ∧ OutY W B c N gs go V :=
  ⟨_, _, _, rfl, rfl, rfl, (((own_made hN hB rfl).alloc _).drew), (has_new (by simp)).drew, Nat.le_refl _, by omega, by omega, below_drew (((Below.refl _ _).alloc (Nat.le_refl _) _).alloc (by simp) _)⟩
theorem outY_b {W : World} {B N : Nat} {c : Bool} (hB : B ≤ W.heap.size) (hN : N ≤ 1000) : ∃ gs go V, ((W.alloc (.cells #[.bool c, .slice (some ⟨W.heap.size + 1, 0, none⟩) N N] 43)).alloc (.cells (zer N) 35)).drew = V ∧ W.heap.size + 1 = gs ∧ W.heap.size = go ∧ OutY W B c N gs go V :=
  ⟨_, _, _, rfl, rfl, rfl, (own_made hN (by simp; omega) (by simp)).drew, ((has_new rfl).alloc _).drew, by omega, Nat.le_refl _, by omega, below_drew (((Below.refl _ _).alloc (Nat.le_refl _) _).alloc (by simp) _)⟩

/-- The first n places of a path that is begun are told by f. -/
def FillY (w1 : World) (B : Nat) (c : Bool) (N gs go : Nat) (f : Nat → Pt) (n : Nat) (wr : World) : Prop :=
  ∃ rs : List Pt, rs.length = N ∧ (∀ j, j < n → pt rs j = f j) ∧ Pown wr B (.slice (some ⟨gs, 0, none⟩) N N) rs ∧ Has wr go #[.bool c, .slice (some ⟨gs, 0, none⟩) N N] 43 ∧ Below w1.heap.size w1 wr
theorem FillY.start {w1 V : World} {B N gs go : Nat} {c : Bool} (f : Nat → Pt) (D : OutY w1 B c N gs go V) : FillY w1 B c N gs go f 0 V := ⟨_, by simp, fun j hj => by omega, D.own, D.out, D.below⟩
theorem FillY.later {w1 V V' : World} {B N gs go n : Nat} {c : Bool} {f : Nat → Pt} (h : FillY w1 B c N gs go f n V) (hb : Below V.heap.size V V') : FillY w1 B c N gs go f n V' := by
  obtain ⟨rs, hl, hst, ho, hg, h1⟩ := h
  exact ⟨rs, hl, hst, ho.below hb (Nat.le_refl _), hg.below hb hg.lt, h1.trans (hb.mono h1.size)⟩
theorem FillY.step {w1 V : World} {B N gs go n : Nat} {c : Bool} {f : Nat → Pt} (h : FillY w1 B c N gs go f n V) (hn : n < N) (lg : w1.heap.size ≤ gs) (ln : gs ≠ go) (x y : Int) (hx : (f n).x = x) (hy : (f n).y = y) :
    FillY w1 B c N gs go f (n + 1) ((V.setCell ⟨gs, n * 2, none⟩ (.int .i64 x)).setCell ⟨gs, n * 2 + 1, none⟩ (.int .i64 y)) := by
  obtain ⟨rs, hl, hst, ho, hg, h1⟩ := h
  subst hx hy
  refine ⟨rs.set n (f n), by simpa using hl, fun j hj => ?_, ho.put hl hn (f n), ?_, (h1.setCell lg _).setCell lg _⟩
  · by_cases e : n = j
    · subst e; exact pt_set_eq (by omega) _
    · rw [pt_set_ne e]; exact hst j (by omega)
  · exact (heap_setCell_other _ ⟨gs, _, none⟩ go _ (fun e => ln (by simpa using e.symm))).trans ((heap_setCell_other _ ⟨gs, _, none⟩ go _ (fun e => ln (by simpa using e.symm))).trans hg)
theorem FillY.done {w1 V : World} {B N gs go : Nat} {c : Bool} {f : Nat → Pt} (h : FillY w1 B c N gs go f N V) : Pown V B (.slice (some ⟨gs, 0, none⟩) N N) ((List.range N).map f) := by
  obtain ⟨rs, hl, hst, ho, _⟩ := h
  have e : rs = (List.range N).map f := pts_ext (by simpa using hl) fun i hi => by rw [pt_mapIdx f (by omega)]; exact hst i (by omega)
  rw [← e]
  exact ho
set_option maxHeartbeats 2000000 in
theorem f_mapped (ma mb mc md me mf : Int) {v : Value} {ps : List Pt} {w : World} (c : Bool) (h : Psl w v ps) :
    Calls Try.prog 30 #[.agg (mCells ma mb mc md me mf), .agg #[.bool c, v]] w (Gives w c (mapL ma mb mc md me mf ps)) := by
  obtain ⟨B, hB⟩ : ∃ B, w.heap.size = B := ⟨_, rfl⟩
  obtain ⟨w1, hW⟩ : ∃ W, ((w.alloc (.cells (mCells ma mb mc md me mf) 32)).alloc (.cells #[.bool c, v] 43)).alloc (.cells #[.bool false, .slice none 0 0] 43) = W := ⟨_, rfl⟩
  have ha : Has w1 B (mCells ma mb mc md me mf) 32 := by rw [← hW]; exact ((has_new hB).alloc _).alloc _
  have hbb : Has w1 (B + 1) #[.bool c, v] 43 := by rw [← hW]; exact (has_new (by simp [hB])).alloc _
  have hc : Has w1 (B + 1 + 1) #[.bool false, .slice none 0 0] 43 := by rw [← hW]; exact has_new (by simp [hB])
  have hbl : Below B w w1 := by rw [← hW]; exact (((Below.refl _ _).alloc (by omega) _).alloc (by simp; omega) _).alloc (by simp; omega) _
  have hsz : w1.heap.size = B + 1 + 1 + 1 := by rw [← hW]; simp [hB]
  have HS1 := Lib.hid (h.below hbl (by omega))
  obtain ⟨ao, cap, rfl, hf, _⟩ := h
  obtain ⟨N, hN⟩ : ∃ N, ps.length = N := ⟨_, rfl⟩
  rw [hN] at hf HS1 hbb hW ⊢
  have mk := make_pts (n := N) (by omega)
  have a0 := hbb.cell 0 _ rfl
  have a1 := hbb.cell 1 _ rfl
  have a2 := fun o => (hbb.alloc o).cell 0 _ rfl
  have a3 := fun o => (hbb.alloc o).cell 1 _ rfl
  have a4 := fun o o' => ((hbb.alloc o).alloc o').cell 0 _ rfl
  have a5 := fun o o' => ((hbb.alloc o).alloc o').cell 1 _ rfl
  have HN := Lib.hid hN
  have HB := Lib.hid hB
  have HW := Lib.hid hW
  have HKA := Lib.hid ha
  have HKB := Lib.hid hbb
  have HKC := Lib.hid hc
  have HB1 := Lib.hid hbl
  have HSZ := Lib.hid hsz
  clear hW ha hbb hc hbl hN hsz
  go_enter Try.func30, Try.ntmps30
  go_upto_region 1 with fail
  rw [HW.out]
  clear hB
  go_cut [5] (fun so wx => ∃ gs go, so = .pointer (some ⟨go, 0, none⟩) ∧ OutY w1 B c N gs go wx)
  case first =>
    go_region
    · obtain ⟨gs, go, V, hV, hgo, hgs, D⟩ := outY_a (c := c) (B := B) (W := w1) (N := N) (by have := HSZ.out; omega) hf
      rw [hV, hgo, hgs]
      go_wp2_with fail
      go_meet
      case rel => exact ⟨gs, go, rfl, D⟩
    · obtain ⟨gs, go, V, hV, hgs, hgo, D⟩ := outY_b (c := c) (B := B) (W := w1) (N := N) (by have := HSZ.out; omega) hf
      rw [hV, hgs, hgo]
      go_wp2_with fail
      go_meet
      case rel => exact ⟨gs, go, rfl, D⟩
  case rest =>
    obtain ⟨gs, go, rfl, D⟩ := hcut
    have hsz := HSZ.out
    clear a0 a1 a2 a3 a4 a5 mk HSZ
    have lg := D.lg
    have lo := D.lo
    have ln := D.ne
    have d0 := D.out.cell 0 _ rfl
    have d1 := D.out.cell 1 _ rfl
    have R0 := Lib.hid (FillY.start (fun i => applyP ma mb mc md me mf (pt ps i)) D)
    have HSZ := Lib.hid hsz
    clear D hsz
    go_wp2
    go_loopw [6, 17] (fun _ i wr => ∃ n : Nat, n ≤ N ∧ i = .int .i64 n ∧ FillY w1 B c N gs go (fun i => applyP ma mb mc md me mf (pt ps i)) n wr) (fun _ i _ => N - (intOf i).toNat)
    case atStart => exact ⟨0, by omega, rfl, R0.out⟩
    case round =>
      clear R0 d0 d1
      obtain ⟨n, hn, rfl, hfl⟩ := hrel
      have HFL := Lib.hid hfl
      obtain ⟨rs, hrl, _, hown, hgo, hb⟩ := hfl
      by_cases hlt : n < N
      · have ka := HKA.out.below hb HKA.out.lt
        have kb := HKB.out.below hb HKB.out.lt
        obtain ⟨g1, o1, rfl, r1, l1⟩ := (HS1.out.below hb (Nat.le_refl _)).row (by omega)
        have m0 := Later.read ka 0 _ rfl
        have m1 := Later.read ka 1 _ rfl
        have m2 := Later.read ka 2 _ rfl
        have m3 := Later.read ka 3 _ rfl
        have m4 := Later.read ka 4 _ rfl
        have m5 := Later.read ka 5 _ rfl
        have b1 := Later.read kb 1 _ rfl
        have d1 := Later.read hgo 1 _ rfl
        have x0 := fun z => (r1.later (by omega) z).c0 n (by omega)
        have x1 := fun z => (r1.later (by omega) z).c1 n (by omega)
        have MID := Lib.hid (fun w => m_apply ma mb mc md me mf (pt ps n).x (pt ps n).y w)
        have HO := Lib.hid hown
        have HRL := Lib.hid hrl
        have o3 : (n : Int) < N := by omega
        clear ka kb r1 hgo hb hown hrl l1 HS1 HKA HKB
        go_wp2_with fail
        refine wp_region_tail_lit (C := fun w' => ∃ z : Later wr, w' = z.to) 11 (by kernel_rfl) (by kernel_rfl) (by kernel_rfl) (by kernel_rfl) ⟨⟨_, below_drew (Below.refl _ _)⟩, rfl⟩ ?_
        simp only [List.take_succ_cons, List.take_zero, List.drop_succ_cons, List.drop_zero]
        repeat (go_big_quiet_step (first | (go_at_call 36; exact Later.calls (MID.out _))))
        refine wpQuiet_nil ?_
        rintro _ ⟨z, rfl⟩
        have F2 := HFL.out.later z.below
        have ho2 := HO.out.below z.below (Nat.le_refl _)
        obtain ⟨V, hV⟩ : ∃ V, z.to = V := ⟨_, rfl⟩
        rw [hV] at F2 ho2 ⊢
        have r3 := ho2.row (by have := HRL.out; omega) (by have := HRL.out; omega)
        have e0 := r3.c0 n (by have := HRL.out; omega)
        have e1 := r3.c1 n (by have := HRL.out; omega)
        rw [Nat.zero_add] at e0 e1
        have fz := ho2.fro HRL.out
        have S := Lib.hid (F2.step hlt lg ln _ _ rfl rfl)
        clear hV F2 ho2 r3 x0 x1 m0 m1 m2 m3 m4 m5 b1 d1
        go_wp2
        go_roundw
        case rel => exact ⟨n + 1, by omega, by go_num, S.out⟩
        case measure => simp [intOf]; omega
      · obtain rfl : n = N := by omega
        have hsz := HSZ.out
        have kc := HKC.out.below hb HKC.out.lt
        have v0 := kc.cell 0 _ rfl
        have v1 := kc.cell 1 _ rfl
        have fz := has_fro kc
        have q0 := hgo.cell 0 _ rfl
        have q1 := hgo.cell 1 _ rfl
        have R := Lib.hid (gives_put (w := w) (r := B + 1 + 1) (c := c) HB.out HFL.out.done (fun e => by have e' : some gs = some (B + 1 + 1) := e; simp at e'; omega) (by omega) (HB1.out.trans (hb.mono (by omega))) rfl (.bool c) _ rfl)
        have o3 : (n : Int) ≤ n := by omega
        clear kc hgo hb hown hrl hsz
        go_wp2
        refine bodyPost_ret (v := .agg #[.bool c, .slice (some ⟨gs, 0, none⟩) n n]) (by simp [results, Try.results30, go_sem, v0, v1]) rfl ?_
        rw [← mapL_range, HN.out]
        exact R.out


end Go.Proofs.Ytegckonhfdlbbaa
