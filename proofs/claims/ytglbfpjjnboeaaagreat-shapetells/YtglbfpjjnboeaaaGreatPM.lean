/- Contracts of path.mid, .Morph: for all paths and shares what the plain arithmetic says, in memory of its own; of the memory nothing that was there turns. -/
import Derived.Test.YtglbfpjjnboeaaaGreatP2
import Derived.Deep.DeepCutAuto
namespace Go.Proofs.YtglbfpjjnboeaaaGreat
open Go.RowKit
open M

set_option maxHeartbeats 1000000 in
theorem p_mid (p q : Pt) (t : Int) (w : World) :
    Calls Tryz.prog 99 #[.agg (pCells p), .agg (pCells q), .int .i64 t] w fun r w' => r = .returned (.agg (pCells (midP p q t))) ∧ Below w.heap.size w w' := by
  obtain ⟨x, y⟩ := p
  obtain ⟨x2, y2⟩ := q
  go_enter Tryz.func99, Tryz.ntmps99
  go_wp2
  refine wp_region_draws_tail 13 (by kernel_rfl) (by kernel_rfl) (by kernel_rfl) (by kernel_rfl) ?_
  simp only [List.take_succ_cons, List.take_zero, List.drop_succ_cons, List.drop_zero]
  repeat (go_big_quiet_step (first | (go_at_call 96; exact quiet1 (q_mid _ _ _ _))))
  refine wpQuiet_nil ?_
  rintro _ ⟨nq, rfl⟩
  obtain ⟨w1, hw1⟩ : ∃ w1, w.drewN nq = w1 := ⟨_, rfl⟩
  have hs : w.heap.size = w1.heap.size := by rw [← hw1]; rfl
  have hb : Below w.heap.size w w1 := by rw [← hw1]; exact below_drewN (Below.refl _ _) _
  change wpList _ _ _ _ _ ((((w.drewN nq).alloc _).alloc _).alloc _)
  rw [hw1]
  have HB := Lib.hid hb
  clear hb hw1
  go_wp2
  refine bodyPost_ret (v := .agg #[.int .i64 (mid x x2 t), .int .i64 (mid y y2 t)]) (by simp [results, Tryz.results99, go_sem, hs]) rfl ⟨rfl, ?_⟩
  repeat (first | exact HB.out | refine Below.alloc ?_ (by first | (simp [hs]; done) | (simp [hs]; omega)) _)

theorem morph_no {c d : Bool} {ps qs : List Pt} {t : Int} (h : fits c ps d qs = false) : morph c ps d qs t = ps := by simp [morph, h]
theorem morph_yes {c d : Bool} {ps qs : List Pt} {t : Int} (h : fits c ps d qs = true) : morph c ps d qs t = midL ps qs t := by simp [morph, h]
theorem Gives.sl {w w' : World} {c : Bool} {ps : List Pt} {e : Ending} (h : Gives w c ps e w') (hf : ps.length ≤ 8796093022208) : ∃ v, e = .returned (.agg #[.bool c, v]) ∧ Psl w' v ps ∧ Below w.heap.size w w' := by
  obtain ⟨v, he, ho, hb⟩ := h
  exact ⟨v, he, ho.sl hf, hb⟩
/-- Two cells of a result's block that is older than a row of the call's own are stored. -/
theorem gives_put {w0 w V : World} {B r : Nat} {c : Bool} {v : Value} {ps : List Pt} (hB : w0.heap.size = B) (ho : Pown V B v ps) (hne : v.ownBlock ≠ some r) (hr : B ≤ r) (hb : Below B w0 V) (_ : w = w) (x y : Value) (he : y = v) :
    Gives w0 c ps (.returned (.agg #[.bool c, v])) ((V.setCell ⟨r, 0, none⟩ x).setCell ⟨r, 1, none⟩ y) := by
  subst hB he
  exact ⟨_, rfl, ho.kept (grownBy_set (grownBy_set (World.grownBy.refl _ _) _ _) _ _) (fun k hk e => hne (by rw [e]; exact hk.symm)), (hb.setCell hr _).setCell hr _⟩

/-- The first n places of a path that is begun are told by f. -/
def Filled (w1 : World) (B : Nat) (c : Bool) (N gs go : Nat) (f : Nat → Pt) (n : Nat) (wr : World) : Prop :=
  ∃ rs : List Pt, rs.length = N ∧ (∀ j, j < n → pt rs j = f j) ∧ Pown wr B (.slice (some ⟨gs, 0, none⟩) N N) rs ∧ Has wr go #[.bool c, .slice (some ⟨gs, 0, none⟩) N N] 41 ∧ Below w1.heap.size w1 wr
theorem Filled.start {w1 V : World} {B N gs go : Nat} {c : Bool} (f : Nat → Pt) (D : Out w1 B c N gs go V) : Filled w1 B c N gs go f 0 V := ⟨_, by simp, fun j hj => by omega, D.own, D.out, D.below⟩
theorem Filled.later {w1 V V' : World} {B N gs go n : Nat} {c : Bool} {f : Nat → Pt} (h : Filled w1 B c N gs go f n V) (hb : Below V.heap.size V V') : Filled w1 B c N gs go f n V' := by
  obtain ⟨rs, hl, hst, ho, hg, h1⟩ := h
  exact ⟨rs, hl, hst, ho.below hb (Nat.le_refl _), hg.below hb hg.lt, h1.trans (hb.mono h1.size)⟩
theorem Filled.step {w1 V : World} {B N gs go n : Nat} {c : Bool} {f : Nat → Pt} (h : Filled w1 B c N gs go f n V) (hn : n < N) (lg : w1.heap.size ≤ gs) (ln : gs ≠ go) (x y : Int) (hx : (f n).x = x) (hy : (f n).y = y) :
    Filled w1 B c N gs go f (n + 1) ((V.setCell ⟨gs, n * 2, none⟩ (.int .i64 x)).setCell ⟨gs, n * 2 + 1, none⟩ (.int .i64 y)) := by
  obtain ⟨rs, hl, hst, ho, hg, h1⟩ := h
  subst hx hy
  refine ⟨rs.set n (f n), by simpa using hl, fun j hj => ?_, ho.put hl hn (f n), ?_, (h1.setCell lg _).setCell lg _⟩
  · by_cases e : n = j
    · subst e; exact pt_set_eq (by omega) _
    · rw [pt_set_ne e]; exact hst j (by omega)
  · exact (heap_setCell_other _ ⟨gs, _, none⟩ go _ (fun e => ln (by simpa using e.symm))).trans ((heap_setCell_other _ ⟨gs, _, none⟩ go _ (fun e => ln (by simpa using e.symm))).trans hg)
theorem Filled.done {w1 V : World} {B N gs go : Nat} {c : Bool} {f : Nat → Pt} (h : Filled w1 B c N gs go f N V) : Pown V B (.slice (some ⟨gs, 0, none⟩) N N) ((List.range N).map f) := by
  obtain ⟨rs, hl, hst, ho, _⟩ := h
  have e : rs = (List.range N).map f := pts_ext (by simpa using hl) fun i hi => by rw [pt_mapIdx f (by omega)]; exact hst i (by omega)
  rw [← e]
  exact ho
theorem Psl.row {w : World} {ao : Option Addr} {N cap : Nat} {ps : List Pt} (h : Psl w (.slice ao N cap) ps) (hn : 0 < N) : ∃ g o, ao = some ⟨g, o, none⟩ ∧ Prow w g o ps ∧ ps.length = N := by
  obtain ⟨ao', cap', hv, _, hr⟩ := h
  simp at hv
  obtain ⟨rfl, hl, rfl⟩ := hv
  obtain ⟨g, o, e, hr⟩ := hr (by omega)
  exact ⟨g, o, e, hr, hl.symm⟩
theorem Prow.later {W : World} {g o : Nat} {ps : List Pt} (h : Prow W g o ps) (hn : 0 < ps.length) (z : Later W) : Prow z.to g o ps := h.block (z.below.block g (h.lt hn))

set_option maxHeartbeats 2000000 in
theorem p_morph {v u : Value} {ps qs : List Pt} {w : World} (c d : Bool) (t : Int) (h : Psl w v ps) (h2 : Psl w u qs) :
    Calls Tryz.prog 76 #[.agg #[.bool c, v], .agg #[.bool d, u], .int .i64 t] w (Gives w c (morph c ps d qs t)) := by
  obtain ⟨B, hB⟩ : ∃ B, w.heap.size = B := ⟨_, rfl⟩
  obtain ⟨W, hW⟩ : ∃ W, ((w.alloc (.cells #[.bool c, v] 41)).alloc (.cells #[.bool d, u] 41)).alloc (.cells #[.bool false, .slice none 0 0] 41) = W := ⟨_, rfl⟩
  have ha : Has W B #[.bool c, v] 41 := by rw [← hW]; exact ((has_new hB).alloc _).alloc _
  have hbb : Has W (B + 1) #[.bool d, u] 41 := by rw [← hW]; exact (has_new (by simp [hB])).alloc _
  have hc : Has W (B + 1 + 1) #[.bool false, .slice none 0 0] 41 := by rw [← hW]; exact has_new (by simp [hB])
  have hbl : Below B w W := by rw [← hW]; exact (((Below.refl _ _).alloc (by omega) _).alloc (by simp; omega) _).alloc (by simp; omega) _
  have h' := h.below hbl (by omega)
  have h2' := h2.below hbl (by omega)
  have F := Lib.hid (p_fits c d h' h2')
  have HS := Lib.hid h'
  have HS2 := Lib.hid h2'
  obtain ⟨ao, cap, rfl, hf, _⟩ := h
  obtain ⟨ao2, cap2, rfl, hf2, _⟩ := h2
  have HB := Lib.hid hB
  have HW := Lib.hid hW
  have HA := Lib.hid ha
  have HBB := Lib.hid hbb
  have HC := Lib.hid hc
  have HBL := Lib.hid hbl
  clear hW ha hbb hc hbl h' h2'
  go_enter Tryz.func76, Tryz.ntmps76
  go_wp2_with fail
  rw [HW.out]
  clear hB
  refine F.out.mono ?_
  rintro e w1 ⟨rfl, hq⟩
  have hsz : B + 1 + 1 < w1.heap.size := by have := HC.out.lt; have := hq.size; omega
  have ka := HA.out.below hq HA.out.lt
  have kb := HBB.out.below hq HBB.out.lt
  have kc := HC.out.below hq HC.out.lt
  have HS1 := Lib.hid (HS.out.below hq (Nat.le_refl _))
  have HS21 := Lib.hid (HS2.out.below hq (Nat.le_refl _))
  have HB1 := Lib.hid (HBL.out.trans (hq.mono (by have := HBL.out.size; have := HB.out; omega)))
  clear hq HA HBB HC HBL HS HS2 F
  have a0 := ka.cell 0 _ rfl
  have a1 := ka.cell 1 _ rfl
  have c0 := kc.cell 0 _ rfl
  have c1 := kc.cell 1 _ rfl
  have HKA := Lib.hid ka
  have HKB := Lib.hid kb
  have HKC := Lib.hid kc
  clear ka kb kc
  by_cases hfit : fits c ps d qs = true
  · have hcd : c = d ∧ ps.length = qs.length := by simp [fits] at hfit; exact ⟨hfit.2, hfit.1⟩
    rw [hfit]
    have E := Lib.hid (morph_yes (t := t) hfit)
    obtain ⟨rfl, hl⟩ := hcd
    obtain ⟨N, hN⟩ : ∃ N, ps.length = N := ⟨_, rfl⟩
    rw [← hl, hN]
    rw [hN] at hf HS1 a0 a1 HKA
    rw [← hl, hN] at HS21 HKB
    rw [hN] at hl
    clear hf2 HW
    have mk := make_pts (n := N) (by omega)
    have a2 := fun o => (HKA.out.alloc o).cell 0 _ rfl
    have a3 := fun o => (HKA.out.alloc o).cell 1 _ rfl
    have a4 := fun o o' => ((HKA.out.alloc o).alloc o').cell 0 _ rfl
    have a5 := fun o o' => ((HKA.out.alloc o).alloc o').cell 1 _ rfl
    have HN := Lib.hid hN
    have HL := Lib.hid hl
    clear hfit hN hl
    go_upto_region 3 with fail
    go_cut [7] (fun so wx => ∃ gs go, so = .pointer (some ⟨go, 0, none⟩) ∧ Out w1 B c N gs go wx)
    case first =>
      go_region
      · obtain ⟨gs, go, V, hV, hgo, hgs, D⟩ := out_a (c := c) (B := B) (W := w1) (N := N) (by omega) hf
        rw [hV, hgo, hgs]
        go_wp2_with fail
        go_meet
        case rel => exact ⟨gs, go, rfl, D⟩
      · obtain ⟨gs, go, V, hV, hgs, hgo, D⟩ := out_b (c := c) (B := B) (W := w1) (N := N) (by omega) hf
        rw [hV, hgs, hgo]
        go_wp2_with fail
        go_meet
        case rel => exact ⟨gs, go, rfl, D⟩
    case rest =>
      obtain ⟨gs, go, rfl, D⟩ := hcut
      clear a0 a1 a2 a3 a4 a5 c0 c1 mk
      have lg := D.lg
      have lo := D.lo
      have ln := D.ne
      have d0 := D.out.cell 0 _ rfl
      have d1 := D.out.cell 1 _ rfl
      have R0 := Lib.hid (Filled.start (fun i => midP (pt ps i) (pt qs i) t) D)
      clear D
      go_wp2
      go_loopw [8, 25] (fun _ i wr => ∃ n : Nat, n ≤ N ∧ i = .int .i64 n ∧ Filled w1 B c N gs go (fun i => midP (pt ps i) (pt qs i) t) n wr) (fun _ i _ => N - (intOf i).toNat)
      case atStart => exact ⟨0, by omega, rfl, R0.out⟩
      case round =>
        clear R0 d0 d1
        obtain ⟨n, hn, rfl, hfl⟩ := hrel
        have HFL := Lib.hid hfl
        obtain ⟨rs, hrl, _, hown, hgo, hb⟩ := hfl
        by_cases hlt : n < N
        · have ka := HKA.out.below hb HKA.out.lt
          have kb := HKB.out.below hb HKB.out.lt
          obtain ⟨g1, o1, rfl, r1, l1⟩ := (HS1.out.below hb (Nat.le_refl _)).row (by omega)
          obtain ⟨g2, o2, rfl, r2, l2⟩ := (HS21.out.below hb (Nat.le_refl _)).row (by omega)
          have a1 := Later.read ka 1 _ rfl
          have b1 := Later.read kb 1 _ rfl
          have d1 := Later.read hgo 1 _ rfl
          have x0 := fun z => (r1.later (by omega) z).c0 n (by omega)
          have x1 := fun z => (r1.later (by omega) z).c1 n (by omega)
          have y0 := fun z => (r2.later (by omega) z).c0 n (by omega)
          have y1 := fun z => (r2.later (by omega) z).c1 n (by omega)
          have MID := Lib.hid (fun w => p_mid (pt ps n) (pt qs n) t w)
          have HO := Lib.hid hown
          have HRL := Lib.hid hrl
          have o3 : (n : Int) < N := by omega
          clear ka kb r1 r2 hgo hb hown hrl l1 l2 HS1 HS21 HKA HKB
          go_wp2_with fail
          refine wp_region_tail_lit (C := fun w' => ∃ z : Later wr, w' = z.to) 16 (by kernel_rfl) (by kernel_rfl) (by kernel_rfl) (by kernel_rfl) ⟨⟨_, below_drew (Below.refl _ _)⟩, rfl⟩ ?_
          simp only [List.take_succ_cons, List.take_zero, List.drop_succ_cons, List.drop_zero]
          repeat (go_big_quiet_step (first | (go_at_call 99; exact Later.calls (MID.out _))))
          refine wpQuiet_nil ?_
          rintro _ ⟨z, rfl⟩
          have F2 := HFL.out.later z.below
          have ho2 := HO.out.below z.below (Nat.le_refl _)
          obtain ⟨V, hV⟩ : ∃ V, z.to = V := ⟨_, rfl⟩
          rw [hV] at F2 ho2 ⊢
          have r3 := ho2.row (by have := HRL.out; omega) (by have := HRL.out; omega)
          have e0 := r3.c0 n (by have := HRL.out; omega)
          have e1 := r3.c1 n (by have := HRL.out; omega)
          rw [Nat.zero_add] at e0 e1
          have fz := ho2.fro HRL.out
          have S := Lib.hid (F2.step hlt lg ln _ _ rfl rfl)
          clear hV F2 ho2 r3 x0 x1 y0 y1 a1 b1 d1
          go_wp2
          go_roundw
          case rel => exact ⟨n + 1, by omega, by go_num, S.out⟩
          case measure => simp [intOf]; omega
        · obtain rfl : n = N := by omega
          have kc := HKC.out.below hb HKC.out.lt
          have v0 := kc.cell 0 _ rfl
          have v1 := kc.cell 1 _ rfl
          have fz := has_fro kc
          have q0 := hgo.cell 0 _ rfl
          have q1 := hgo.cell 1 _ rfl
          have R := Lib.hid (gives_put (w := w) (r := B + 1 + 1) (c := c) HB.out HFL.out.done (fun e => by have e' : some gs = some (B + 1 + 1) := e; simp at e'; omega) (by omega) (HB1.out.trans (hb.mono (by omega))) rfl (.bool c) _ rfl)
          have o3 : (n : Int) ≤ n := by omega
          clear kc hgo hb hown hrl
          go_wp2
          refine bodyPost_ret (v := .agg #[.bool c, .slice (some ⟨gs, 0, none⟩) n n]) (by simp [results, Tryz.results76, go_sem, v0, v1]) rfl ?_
          rw [E.out]
          unfold midL
          rw [HN.out]
          exact R.out
  · have hfit' : fits c ps d qs = false := by simpa using hfit
    rw [hfit']
    have E := Lib.hid (morph_no (t := t) hfit')
    clear hfit hfit'
    go_wp2_with fail
    refine (p_copied c HS1.out).mono ?_
    rintro e w2 ⟨v2, rfl, ho, hb⟩
    have kc := HKC.out.below hb HKC.out.lt
    have R := Lib.hid (gives_put (w := w) (r := B + 1 + 1) (c := c) HB.out (ho.lower (by omega)) (fun e => by have := (ho.base _ e).1; omega) (by omega) (HB1.out.trans (hb.mono (by omega))) rfl (.bool c) v2 rfl)
    have v0 := kc.cell 0 _ rfl
    have v1 := kc.cell 1 _ rfl
    have fz := has_fro kc
    obtain ⟨ao3, cap3, rfl⟩ := ho.len
    clear kc ho hb a0 a1 c0 c1
    go_wp2
    refine bodyPost_ret (v := .agg #[.bool c, .slice ao3 ps.length cap3]) (by simp [results, Tryz.results76, go_sem, v0, v1]) rfl ?_
    rw [E.out]
    exact R.out

end Go.Proofs.YtglbfpjjnboeaaaGreat
