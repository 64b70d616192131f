/- Contract of flat.Of: for all paths what the plain arithmetic says, in memory of its own; of the memory nothing that was there turns. -/
import Derived.Test.YtegckonhfdlbbaaF3
import Derived.Test.YtegckonhfdlbbaaTK5
import Derived.Deep.RegionLaw
import Derived.Deep.DeepCutAuto
namespace Go.Proofs.Ytegckonhfdlbbaa
open Go Go.RowKit
open M

/-- A poly that grows: in block go, its list in blocks behind it; the result's block is r, the path's own is q. -/
structure Gro (w1 : World) (q r go : Nat) (c : Bool) (vp : Value) (rs : List Pt) (l : Value) (wr : World) : Prop where
  own : Pown wr (go + 1) l rs
  out : Has wr go #[.bool c, l] 43
  res : Has wr r #[.bool false, .slice none 0 0] 43
  src : Has wr q #[.bool c, vp] 29
  below : Below w1.heap.size w1 wr
  lq : w1.heap.size ≤ q
  lr : q < r
  lo : r < go
section
variable {w1 W w' : World} {q r go : Nat} {c : Bool} {rs qs : List Pt} {vp l l' : Value}
theorem Gro.later (h : Gro w1 q r go c vp rs l W) (hq : Below W.heap.size W w') : Gro w1 q r go c vp rs l w' :=
  ⟨h.own.below hq (Nat.le_refl _), h.out.below hq h.out.lt, h.res.below hq h.res.lt, h.src.below hq h.src.lt, h.below.trans (hq.mono h.below.size), h.lq, h.lr, h.lo⟩
theorem Gro.away (h : Gro w1 q r go c vp rs l W) : l.ownBlock ≠ some go ∧ l.ownBlock ≠ some r ∧ l.ownBlock ≠ some q := ⟨fun e => by have := (h.own.base go e).1; omega, fun e => by have := (h.own.base r e).1; have := h.lo; omega, fun e => by have := (h.own.base q e).1; have := h.lo; have := h.lr; omega⟩
/-- The list has grown, and is stored. -/
theorem Gro.put (h : Gro w1 q r go c vp rs l W) (ho : Pown w' (go + 1) l' qs) (hg : W.grownBy w' l.ownBlock) : Gro w1 q r go c vp qs l' (w'.setCell ⟨go, 1, none⟩ l') := by
  have hk : Has w' go #[.bool c, l] 43 := (hg.block go h.out.lt (fun e => h.away.1 e.symm)).trans h.out
  have hr : Has w' r #[.bool false, .slice none 0 0] 43 := (hg.block r h.res.lt (fun e => h.away.2.1 e.symm)).trans h.res
  have hq : Has w' q #[.bool c, vp] 29 := (hg.block q h.src.lt (fun e => h.away.2.2 e.symm)).trans h.src
  have hs := h.below.size
  have h1 := h.lr
  have h0 := h.lq
  have h2 := h.lo
  refine ⟨ho.kept (grownBy_set (World.grownBy.refl _ _) _ _) (fun k hk e => by simp at hk; have := (ho.base k e).1; omega), ?_, has_grown hr (grownBy_set (World.grownBy.refl _ _) _ _) (by omega), has_grown hq (grownBy_set (World.grownBy.refl _ _) _ _) (by omega), ?_, h0, h1, h2⟩
  · have := has_set hk 1 l'
    simpa using this
  · exact (h.below.grown hg (by omega) (fun k e => by have := (h.own.base k e).1; omega)).setCell (show w1.heap.size ≤ go by omega) _
theorem Gro.fine (h : Gro w1 q r go c vp rs l W) (hg : W.grownBy w' l.ownBlock) : w'.cell? ⟨go, 1, none⟩ = some l ∧ w'.frozen? ⟨go, 1, none⟩ = false := by
  have hk : Has w' go #[.bool c, l] 43 := (hg.block go h.out.lt (fun e => h.away.1 e.symm)).trans h.out
  exact ⟨hk.cell 1 _ rfl, has_fro hk 1⟩
end
/-- A slice has room for what it holds. -/
def capOk : Value → Prop
  | .slice _ n c => n ≤ c
  | _ => False
def lenOf : Value → Nat
  | .slice _ n _ => n
  | _ => 0
theorem flatL_no {c : Bool} {ps : List Pt} (h : ps.length = 0 ∨ okP c ps = false) : flatL c ps = [] := by unfold flatL; rw [if_pos h]
theorem flatL_yes {c : Bool} {ps : List Pt} (h : ¬ (ps.length = 0 ∨ okP c ps = false)) : flatL c ps = polyN ps ((ps.length - 1) / 3) := by unfold flatL; rw [if_neg h]
theorem nearL_at {ps : List Pt} : ∀ {n : Nat}, nearL ps n = true → ∀ i, i < n → nearP (pt ps i) = true
  | 0, _, i, hi => by omega
  | n + 1, h, i, hi => by
    unfold nearL at h
    rw [Bool.and_eq_true] at h
    by_cases e : i = n
    · rw [e]; exact h.2
    · exact nearL_at h.1 i (by omega)
theorem okP_rg {c : Bool} {ps : List Pt} (h0 : ¬ ps.length = 0) (h : okP c ps = true) : 4 ≤ ps.length ∧ ps.length ≤ 97 ∧ ps.length % 3 = 1 ∧ ∀ i, i < ps.length → Rg (pt ps i) := by
  rw [okP_pos h0, Bool.and_eq_true] at h
  have h1 := h.1
  simp [okLen] at h1
  exact ⟨h1.1.1, h1.1.2, h1.2, fun i hi => Rg.near (nearL_at h.2 i hi)⟩

set_option maxRecDepth 100000 in
set_option maxHeartbeats 2000000 in
theorem f_of {v : Value} {ps : List Pt} {w : World} (c : Bool) (h : Psl w v ps) (hcap : capOk v) : Calls Try.prog 15 #[.agg #[.bool c, v]] w (Gives w c (flatL c ps)) := by
  obtain ⟨B, hB⟩ : ∃ B, w.heap.size = B := ⟨_, rfl⟩
  obtain ⟨W, hW⟩ : ∃ W, ((w.alloc (.cells #[.bool c, v] 29)).alloc (.cells #[.bool false, .slice none 0 0] 43)).alloc (.cells #[.bool c, .slice none 0 0] 43) = W := ⟨_, rfl⟩
  have ha : Has W B #[.bool c, v] 29 := by rw [← hW]; exact ((has_new hB).alloc _).alloc _
  have hr : Has W (B + 1) #[.bool false, .slice none 0 0] 43 := by rw [← hW]; exact (has_new (by simp [hB])).alloc _
  have hc : Has W (B + 1 + 1) #[.bool c, .slice none 0 0] 43 := by rw [← hW]; exact has_new (by simp [hB])
  have hbl : Below B w W := by rw [← hW]; exact (((Below.refl _ _).alloc (by omega) _).alloc (by simp; omega) _).alloc (by simp; omega) _
  have hsz : W.heap.size = B + 1 + 1 + 1 := by rw [← hW]; simp [hB]
  have h' := h.below hbl (by omega)
  have hsw := h
  obtain ⟨ao, cap, rfl, hf, _⟩ := h
  obtain ⟨N, hN⟩ : ∃ N, ps.length = N := ⟨_, rfl⟩
  rw [hN] at h' ha hf hW hsw hcap ⊢
  have hcap' : N ≤ cap := hcap
  have HCP := Lib.hid hcap'
  have HSW := Lib.hid hsw
  have HE := Lib.hid (p_empty c h')
  have HS := Lib.hid h'
  have HA := Lib.hid ha
  have HR := Lib.hid hr
  have HC := Lib.hid hc
  have HBL := Lib.hid hbl
  have HSZ := Lib.hid hsz
  have HW := Lib.hid hW
  have HB := Lib.hid hB
  have HN := Lib.hid hN
  clear ha hr hc hbl hsz hW h' hN hsw hcap hcap'
  go_enter Try.func15, Try.ntmps15
  go_upto_region 2 with fail
  rw [HW.out]
  have a0 := HA.out.cell 0 _ rfl
  have a1 := HA.out.cell 1 _ rfl
  clear hB HW
  go_wp2_with fail
  refine HE.out.mono ?_
  rintro e w1 ⟨rfl, hq⟩
  rw [HN.out]
  have ka := HA.out.below hq HA.out.lt
  have a0 := ka.cell 0 _ rfl
  have a1 := ka.cell 1 _ rfl
  have HS1 := HS.out.below hq (Nat.le_refl _)
  have H1 := Lib.hid hq
  by_cases h0 : N = 0
  · rw [decide_eq_true h0]
    have kc := HC.out.below hq HC.out.lt
    have kr := HR.out.below hq HR.out.lt
    have c0 := kc.cell 0 _ rfl
    have c1 := kc.cell 1 _ rfl
    have r0 := kr.cell 0 _ rfl
    have r1 := kr.cell 1 _ rfl
    have fz := has_fro kr
    have RR : Gives w c (flatL c ps) (.returned (.agg #[.bool c, .slice none 0 0])) ((w1.setCell ⟨B + 1, 0, none⟩ (.bool c)).setCell ⟨B + 1, 1, none⟩ (.slice none 0 0)) := by
      rw [flatL_no (Or.inl (by rw [HN.out]; exact h0))]
      exact gives_put (w := w) HB.out (Pown.nil _ _) (by simp [Value.ownBlock]) (by omega) (HBL.out.trans (hq.mono (by have := HSZ.out; omega))) rfl _ _ rfl
    have RRH := Lib.hid RR
    clear RR kc kr ka hq HS1
    go_wp2
    refine bodyPost_ret (v := .agg #[.bool c, .slice none 0 0]) (by simp [results, Try.results15, go_sem, r0, r1]) rfl ?_
    exact RRH.out
  · rw [decide_eq_false h0]
    have HRT := Lib.hid (p_right c HS1)
    clear ka hq HS1
    go_wp2_with fail
    refine HRT.out.mono ?_
    rintro e w2 ⟨rfl, hq2⟩
    have b2 : Below W.heap.size W w2 := H1.out.trans (hq2.mono H1.out.size)
    have B2 := Lib.hid b2
    clear a0 a1 hq2 H1 HRT HE
    by_cases hok : okP c ps = false
    · rw [hok]
      have kc := HC.out.below b2 HC.out.lt
      have kr := HR.out.below b2 HR.out.lt
      have c0 := kc.cell 0 _ rfl
      have c1 := kc.cell 1 _ rfl
      have r0 := kr.cell 0 _ rfl
      have r1 := kr.cell 1 _ rfl
      have fz := has_fro kr
      have RR : Gives w c (flatL c ps) (.returned (.agg #[.bool c, .slice none 0 0])) ((w2.setCell ⟨B + 1, 0, none⟩ (.bool c)).setCell ⟨B + 1, 1, none⟩ (.slice none 0 0)) := by
        rw [flatL_no (Or.inr hok)]
        exact gives_put (w := w) HB.out (Pown.nil _ _) (by simp [Value.ownBlock]) (by omega) (HBL.out.trans (b2.mono (by have := HSZ.out; omega))) rfl _ _ rfl
      have RRH := Lib.hid RR
      clear RR kc kr b2 hok
      go_wp2
      refine bodyPost_ret (v := .agg #[.bool c, .slice none 0 0]) (by simp [results, Try.results15, go_sem, r0, r1]) rfl ?_
      exact RRH.out
    · have hok' : okP c ps = true := by simpa using hok
      rw [hok']
      have EF := Lib.hid (flatL_yes (c := c) (ps := ps) (by rw [HN.out]; rintro (h | h); exact h0 h; exact hok h))
      obtain ⟨q1, q2, q3, q4⟩ := okP_rg (by rw [HN.out]; exact h0) hok'
      rw [HN.out] at q1 q2 q3 q4 EF
      have RG := Lib.hid q4
      have bS : w2.heap.size > B + 1 + 1 := by have := b2.size; have := HSZ.out; omega
      have OP : Hid (Prow (w2.alloc (.cells (pCells (pt ps 0)) 35)).drew w2.heap.size 0 [pt ps 0]) := Lib.hid ((prow_one _ _).block rfl)
      have OO : Hid (Pown (w2.alloc (.cells (pCells (pt ps 0)) 35)).drew (B + 1 + 1 + 1) (.slice none 0 0) []) := Lib.hid (Pown.nil _ _)
      have OS : Hid (B + 1 + 1 + 1 ≤ (w2.alloc (.cells (pCells (pt ps 0)) 35)).drew.heap.size) := Lib.hid (by show _ ≤ (w2.alloc _).heap.size; simp; omega)
      have kA := Lib.hid (HA.out.below b2 HA.out.lt)
      have kA0 := kA.out.cell 1 _ rfl
      have kC0 := (HC.out.below b2 HC.out.lt).cell 1 _ rfl
      obtain ⟨g, o, e1, r, l1⟩ := (HS.out.below b2 (Nat.le_refl _)).row (by omega)
      subst e1
      have x0 := r.c0 0 (by omega)
      have x1 := r.c1 0 (by omega)
      simp only [Nat.zero_mul, Nat.add_zero] at x0 x1
      obtain ⟨p, hp⟩ : ∃ p, pt ps 0 = p := ⟨_, rfl⟩
      rw [hp] at x0 x1 OP OO OS
      have GG : Hid (Gro w B (B + 1) (B + 1 + 1) c (.slice (some ⟨g, o, none⟩) N cap) [] (.slice none 0 0) (w2.alloc (.cells (pCells p) 35)).drew) := Lib.hid ⟨Pown.nil _ _, ((HC.out.below b2 HC.out.lt).alloc _).drew, ((HR.out.below b2 HR.out.lt).alloc _).drew, ((HA.out.below b2 HA.out.lt).alloc _).drew, below_drew (by rw [HB.out]; exact (HBL.out.trans (b2.mono (by have := HSZ.out; omega))).alloc (by omega) _), by rw [HB.out]; omega, by omega, by omega⟩
      have HP := Lib.hid hp
      have o1 : (0 : Int) < N := by omega
      have o2 : 0 < N := by omega
      clear hok hok' q4 r l1 hp b2
      obtain ⟨px, py⟩ := p
      simp only at x0 x1
      go_upto_region 4 with fail
      go_cut [3] (fun so wx => ∃ g' cap', so = .pointer (some ⟨B + 1 + 1, 0, none⟩) ∧ Gro w B (B + 1) (B + 1 + 1) c (.slice (some ⟨g, o, none⟩) N cap) [⟨px, py⟩] (.slice (some ⟨g', 0, none⟩) 1 cap') wx)
      case first =>
       go_region_law
        (first
          | (refine step_append_pl (W := (w2.alloc (.cells (pCells ⟨px, py⟩) 35)).drew) (base := B + 1 + 1 + 1) (rs := []) (by rfl) (.tmp 17) (.tmp 22) (by rfl) 0 rfl (by rfl) w2.heap.size 0 1 1 (by rfl) [⟨px, py⟩] rfl (by decide) (by decide) OP.out OO.out OS.out ?_; intro g' cap' w4 ho hg hat; have f0 := (GG.out.fine hg).1; have f1 := (GG.out.fine hg).2; have RG1 := Lib.hid (GG.out.put ho hg)))
       all_goals
         clear ho hg hat
         go_wp2_with fail
         go_meet
         case rel => exact ⟨_, _, rfl, RG1.out⟩
      case rest =>
        obtain ⟨g', cap', rfl, hG⟩ := hcut
        have s1 := hG.src.cell 1 _ rfl
        have RW := Lib.hid (fun (wr : World) (hb : Below w.heap.size w wr) => (HSW.out.below hb (Nat.le_refl _)))
        have H0 := Lib.hid hG
        clear kA0 kC0 x0 x1 OP OO OS GG kA hG HR HC HBL HSZ B2 HA HS a0 a1 bS
        go_wp2
        go_loopw [4] (fun l wr => ∃ (k M cp : Nat) (lo : Value), 3 * k + M = N ∧ 0 < M ∧ M ≤ cp ∧ l = .slice (some ⟨g, o + k * 6, none⟩) M cp ∧ (polyN ps k).length ≤ 8 * k + 1 ∧ Gro w B (B + 1) (B + 1 + 1) c (.slice (some ⟨g, o, none⟩) N cap) (polyN ps k) lo wr) (fun l _ => lenOf l)
        case atStart => exact ⟨0, N, cap, _, by omega, by omega, HCP.out, by simp, by simp [polyN], by rw [show polyN ps 0 = [⟨px, py⟩] by rw [← HP.out]; rfl]; exact H0.out⟩
        case round =>
          obtain ⟨k, M, cp, lo, e1, e2, e3, rfl, e4, hG⟩ := hrel
          clear H0
          have GH := Lib.hid hG
          by_cases hlt : 3 < M
          · obtain ⟨g1, o1', eo, r, l1⟩ := (RW.out wr hG.below).row (by omega)
            simp at eo
            obtain ⟨rfl, rfl⟩ := eo
            have hg1 : g < w.heap.size := by
              obtain ⟨g1, o1', eo, r, l1⟩ := HSW.out.row (by omega)
              simp at eo
              obtain ⟨rfl, rfl⟩ := eo
              exact r.lt (by omega)
            obtain ⟨a, pa⟩ : ∃ p, pt ps (3 * k) = p := ⟨_, rfl⟩
            obtain ⟨b, pb⟩ : ∃ p, pt ps (3 * k + 1) = p := ⟨_, rfl⟩
            obtain ⟨cc, pc⟩ : ∃ p, pt ps (3 * k + 2) = p := ⟨_, rfl⟩
            obtain ⟨d, pd⟩ : ∃ p, pt ps (3 * k + 3) = p := ⟨_, rfl⟩
            have ra : Rg a := pa ▸ RG.out (3 * k) (by omega)
            have rb : Rg b := pb ▸ RG.out (3 * k + 1) (by omega)
            have rc : Rg cc := pc ▸ RG.out (3 * k + 2) (by omega)
            have rd : Rg d := pd ▸ RG.out (3 * k + 3) (by omega)
            have row : ∀ (R : World → Prop) (z : LaterR wr R), Prow z.to g o ps := fun R z => r.block (z.below.block g (r.lt (by omega)))
            have EP := Lib.hid (And.intro pa (And.intro pb (And.intro pc pd)))
            have PX : Hid (∀ (R : World → Prop) (z : LaterR wr R), (z.to.cell? ⟨g, o + k * 6, none⟩ = some (.int .i64 a.x) ∧ z.to.cell? ⟨g, o + k * 6 + 1, none⟩ = some (.int .i64 a.y)) ∧ (z.to.cell? ⟨g, o + k * 6 + 2, none⟩ = some (.int .i64 b.x) ∧ z.to.cell? ⟨g, o + k * 6 + 2 + 1, none⟩ = some (.int .i64 b.y)) ∧ (z.to.cell? ⟨g, o + k * 6 + 4, none⟩ = some (.int .i64 cc.x) ∧ z.to.cell? ⟨g, o + k * 6 + 4 + 1, none⟩ = some (.int .i64 cc.y)) ∧ (z.to.cell? ⟨g, o + k * 6 + 6, none⟩ = some (.int .i64 d.x) ∧ z.to.cell? ⟨g, o + k * 6 + 6 + 1, none⟩ = some (.int .i64 d.y))) := Lib.hid (by
              intro R z
              have q := row R z
              have i1 : o + 3 * k * 2 = o + k * 6 := by omega
              have i2 : o + (3 * k + 1) * 2 = o + k * 6 + 2 := by omega
              have i3 : o + (3 * k + 2) * 2 = o + k * 6 + 4 := by omega
              have i4 : o + (3 * k + 3) * 2 = o + k * 6 + 6 := by omega
              have A0 := q.c0 (3 * k) (by omega)
              have A1 := q.c1 (3 * k) (by omega)
              have B0 := q.c0 (3 * k + 1) (by omega)
              have B1 := q.c1 (3 * k + 1) (by omega)
              have C0 := q.c0 (3 * k + 2) (by omega)
              have C1 := q.c1 (3 * k + 2) (by omega)
              have D0 := q.c0 (3 * k + 3) (by omega)
              have D1 := q.c1 (3 * k + 3) (by omega)
              rw [pa, i1] at A0 A1
              rw [pb, i2] at B0 B1
              rw [pc, i3] at C0 C1
              rw [pd, i4] at D0 D1
              exact ⟨⟨A0, A1⟩, ⟨B0, B1⟩, ⟨C0, C1⟩, ⟨D0, D1⟩⟩)
            obtain ⟨ln, hln⟩ : ∃ n, (polyN ps k).length = n := ⟨_, rfl⟩
            obtain ⟨aol, capl, hv⟩ := hG.own.len
            rw [hln] at hv
            subst hv
            have HLN := Lib.hid hln
            have o3 : (3 : Int) < M := by omega
            have o4 : (M : Int) ≤ cp := by omega
            have o5 : 0 < M := by omega
            have o6 : 1 < M := by omega
            have o7 : 2 < M := by omega
            have o8 : 3 ≤ M := by omega
            have PL := Lib.hid (polyN_length ps k)
            have K9 : Hid (k ≤ 32) := Lib.hid (by omega)
            clear hG pa pb pc pd r row l1 hln hg1
            go_upto_region 8 with fail
            refine wp_region_make0 14 (by kernel_rfl) (by kernel_rfl) (by kernel_rfl) ?_
            apply Exists.intro
            refine ⟨fun R hR hN => ?_, ?_⟩
            · have y0 := fun z => LaterR.read (R := R) GH.out.out 1 _ rfl z
              have A0 := fun z => (PX.out R z).1.1
              have A1 := fun z => (PX.out R z).1.2
              have B0 := fun z => (PX.out R z).2.1.1
              have B1 := fun z => (PX.out R z).2.1.2
              have C0 := fun z => (PX.out R z).2.2.1.1
              have C1 := fun z => (PX.out R z).2.2.1.2
              have D0 := fun z => (PX.out R z).2.2.2.1
              have D1 := fun z => (PX.out R z).2.2.2.2
              simp only [List.take_succ_cons, List.take_zero]
              repeat (go_big_quiet_step (fail))
              exact wpQuiet_nil rfl
            · intro w3 hb3
              simp only [List.drop_succ_cons, List.drop_zero]
              have G3 := Lib.hid (GH.out.later hb3)
              have PT := Lib.hid (f_part ra rb rc rd G3.out.own (by have := G3.out.out.lt; omega) (by rw [HLN.out]; have := PL.out; have := HLN.out; have := K9.out; omega))
              go_wp2_with fail
              refine PT.out.mono ?_
              rintro e w4 ⟨g4, cap4, N4, rfl, hN4, ho4, hg4, _⟩
              have f0 := (G3.out.fine hg4).1
              have f1 := (G3.out.fine hg4).2
              have hst : polyN ps k ++ partL a b cc d = polyN ps (k + 1) := by
                show _ = polyN ps k ++ partL (pt ps (3 * k)) (pt ps (3 * k + 1)) (pt ps (3 * k + 2)) (pt ps (3 * k + 3))
                rw [EP.out.1, EP.out.2.1, EP.out.2.2.1, EP.out.2.2.2]
              rw [hst] at ho4 hN4
              have G4 := Lib.hid (G3.out.put ho4 hg4)
              clear ho4 hg4 hst hN4 PT
              go_wp2
              go_roundw
              case rel => exact ⟨k + 1, M - 3, cp - 3, _, by omega, by omega, by omega, by first | (simp; done) | (simp; omega), (polyN_length ps (k + 1)).2, G4.out⟩
              case measure => simp [lenOf]; omega
          · have ek : k = (N - 1) / 3 := by omega
            have c0 := hG.out.cell 0 _ rfl
            have c1 := hG.out.cell 1 _ rfl
            have v0 := hG.res.cell 0 _ rfl
            have v1 := hG.res.cell 1 _ rfl
            have fz := has_fro hG.res
            obtain ⟨aol, capl, hv⟩ := hG.own.len
            obtain ⟨ln, hln⟩ : ∃ n, (polyN ps k).length = n := ⟨_, rfl⟩
            rw [hln] at hv
            subst hv
            have RR : Gives w c (flatL c ps) (.returned (.agg #[.bool c, .slice aol ln capl])) ((wr.setCell ⟨B + 1, 0, none⟩ (.bool c)).setCell ⟨B + 1, 1, none⟩ (.slice aol ln capl)) := by
              rw [EF.out, ← ek]
              exact gives_put (w := w) HB.out (hG.own.lower (by omega)) hG.away.2.1 (by omega) (by have := hG.below; rw [HB.out] at this; exact this) rfl _ _ rfl
            have RRH := Lib.hid RR
            have o3 : (M : Int) ≤ 3 := by omega
            clear RR hG GH hln
            go_wp2
            refine bodyPost_ret (v := .agg #[.bool c, .slice aol ln capl]) (by simp [results, Try.results15, go_sem, v0, v1]) rfl ?_
            exact RRH.out



end Go.Proofs.Ytegckonhfdlbbaa
