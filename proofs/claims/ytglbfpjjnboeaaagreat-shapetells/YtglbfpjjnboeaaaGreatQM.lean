/- Contracts of mutoscoperef8.Morph, .Map: for all paths, shares and maps what the plain arithmetic says, in memory of its own; of the memory nothing that was there turns. -/
import Derived.Test.YtglbfpjjnboeaaaGreatQ8
import Derived.Test.YtglbfpjjnboeaaaGreatPP
import Derived.Test.YtglbfpjjnboeaaaGreatR3
import Derived.Test.YtglbfpjjnboeaaaGreatMidR
import Derived.Test.YtglbfpjjnboeaaaGreatTK5
import Derived.Test.YtglbfpjjnboeaaaGreatR5
import Derived.Deep.RegionHeld3
import Derived.Deep.RegionLaw
namespace Go.Proofs.YtglbfpjjnboeaaaGreat
open Go.RowKit
open M

/-- A list of places that grows: in blocks from 'base' on. -/
theorem wp_append_one {W : World} {base : Nat} {l : Value} {rs : List Pt} {o : Oper} {a : Act} {K : Act → World → Prop} {Q : Exit → Act → World → Prop} (s x : Operand)
    (ho : o.op = .call { callee := .builtin .append, args := #[s, x], argTypes := #[39, 39] }) (N : Nat) (hN : rs.length = N) (hf : N < 8796093022208) (hs : a.eval s = l) (H : Nat) (hx : a.eval x = .slice (some ⟨H, 0, none⟩) 1 1)
    (p : Pt) (cs : Array Value) (hn : Has W H cs 29) (hcs : cs.toList = pl p) (hT : Pown W base l rs) (hb : base ≤ W.heap.size)
    (h : ∀ g' cap' w', Pown w' base (.slice (some ⟨g', 0, none⟩) (N + 1) cap') (rs ++ [p]) → W.grownBy w' l.ownBlock → K (a.put o.dst (.slice (some ⟨g', 0, none⟩) (N + 1) cap')) w') : o.wp Tryz.prog a W K Q := by
  obtain ⟨i0, hi, hz0, hz1, hz2⟩ := info_parts Tryz.infoPt
  subst hN
  refine wp_append_lies W s x 39 ho base 29 i0 _ 2 16 Tryz.underlying39 hi hz0 hz1 hz2 rfl (by decide) l rs.length (pls rs) hs hT ⟨H, 0, none⟩ 1 1 (pl p) hx rfl ?_ (by have := ones_pls [p]; simpa [pls] using this) (by decide) (by unfold maxLen; omega) (by omega) hb _ rfl ?_
  · intro j u hu
    rw [Addr.add_lit, Nat.zero_add]
    refine hn.cell j u ?_
    rw [← hcs] at hu
    simpa using hu
  intro g' cap' w' hown' hg _ _
  refine h g' cap' w' ?_ hg
  unfold Pown
  rw [List.length_append, pls_append]
  have e : pls [p] = pl p := by simp [pls]
  rw [e]
  exact hown'
theorem wpList_append_one {W : World} {base : Nat} {l : Value} {rs : List Pt} {ops : Array Oper} {rest : List Oper} {o : Oper} {a : Act} {Q : Exit → Act → World → Prop} (hgd : o.guard = none) (s x : Operand)
    (ho : o.op = .call { callee := .builtin .append, args := #[s, x], argTypes := #[39, 39] }) (N : Nat) (hN : rs.length = N) (hf : N < 8796093022208) (hs : a.eval s = l) (H : Nat) (hx : a.eval x = .slice (some ⟨H, 0, none⟩) 1 1)
    (p : Pt) (cs : Array Value) (hn : Has W H cs 29) (hcs : cs.toList = pl p) (hT : Pown W base l rs) (hb : base ≤ W.heap.size)
    (h : ∀ g' cap' w', Pown w' base (.slice (some ⟨g', 0, none⟩) (N + 1) cap') (rs ++ [p]) → W.grownBy w' l.ownBlock → wpList Tryz.prog ops Q rest (a.put o.dst (.slice (some ⟨g', 0, none⟩) (N + 1) cap')) w') : wpList Tryz.prog ops Q (o :: rest) a W :=
  wpList_plain hgd fun _ hK => wp_append_one s x ho N hN hf hs H hx p cs hn hcs hT hb fun g' cap' w' h1 h2 => hK _ _ (h g' cap' w' h1 h2)
theorem step_append_one {W : World} {base : Nat} {l : Value} {rs : List Pt} {ops : Array Oper} {o : Oper} {a : Act} {K : Act → World → Prop} {Q : Exit → Act → World → Prop} {E : Prop} (hw : Region.wanted o (yielded ops a.tmps) = true) (s x : Operand)
    (ho : o.op = .call { callee := .builtin .append, args := #[s, x], argTypes := #[39, 39] }) (N : Nat) (hN : rs.length = N) (hf : N < 8796093022208) (hs : a.eval s = l) (H : Nat) (hx : a.eval x = .slice (some ⟨H, 0, none⟩) 1 1)
    (p : Pt) (cs : Array Value) (hn : Has W H cs 29) (hcs : cs.toList = pl p) (hT : Pown W base l rs) (hb : base ≤ W.heap.size)
    (h : ∀ g' cap' w', Pown w' base (.slice (some ⟨g', 0, none⟩) (N + 1) cap') (rs ++ [p]) → W.grownBy w' l.ownBlock → K (a.put o.dst (.slice (some ⟨g', 0, none⟩) (N + 1) cap')) w') :
    if Region.wanted o (yielded ops a.tmps) = true then Oper.wp Tryz.prog o a W K Q else E := by
  rw [if_pos hw]
  exact wp_append_one s x ho N hN hf hs H hx p cs hn hcs hT hb h
theorem pts_snoc {rs qs : List Pt} {n : Nat} (hl : rs.length = n) (h : ∀ j, j < n → pt rs j = pt qs j) : ∀ j, j < n + 1 → pt (rs ++ [pt qs n]) j = pt qs j := by
  intro j hj
  by_cases e : j < n
  · rw [pt_left (by omega)]; exact h j e
  · obtain rfl : j = n := by omega
    subst hl
    exact pt_last _ _

/-- A path that grows place by place: in block go, its list in blocks behind it. -/
structure Rpa (w1 : World) (go : Nat) (c : Bool) (n : Nat) (qs : List Pt) (l : Value) (wr : World) : Prop where
  own : ∃ rs, rs.length = n ∧ (∀ j, j < n → pt rs j = pt qs j) ∧ Pown wr (go + 1) l rs
  out : Has wr go #[.bool c, l] 41
  below : Below w1.heap.size w1 wr
  hgo : w1.heap.size = go
theorem Rpa.call {w1 wr w' : World} {go n : Nat} {c : Bool} {qs : List Pt} {l : Value} (h : Rpa w1 go c n qs l wr) (hq : Below wr.heap.size wr w') : Rpa w1 go c n qs l w' := by
  obtain ⟨rs, h1, h2, h3⟩ := h.own
  exact ⟨⟨rs, h1, h2, h3.below hq (Nat.le_refl _)⟩, h.out.below hq h.out.lt, h.below.trans (hq.mono h.below.size), h.hgo⟩
theorem Rpa.len {w1 wr : World} {go n : Nat} {c : Bool} {qs : List Pt} {l : Value} (h : Rpa w1 go c n qs l wr) : ∃ ao cap, l = .slice ao n cap := by
  obtain ⟨rs, h1, h2, h3⟩ := h.own
  subst h1
  exact h3.len
theorem Rpa.snoc {w1 W w' : World} {go n g' cap' : Nat} {c : Bool} {qs rs : List Pt} {l : Value} (h : Rpa w1 go c n qs l W) (h1 : rs.length = n) (h2 : ∀ j, j < n → pt rs j = pt qs j) (h3 : Pown W (go + 1) l rs)
    (ho : Pown w' (go + 1) (.slice (some ⟨g', 0, none⟩) (n + 1) cap') (rs ++ [pt qs n])) (hg : W.grownBy w' l.ownBlock) : Rpa w1 go c (n + 1) qs (.slice (some ⟨g', 0, none⟩) (n + 1) cap') (w'.setCell ⟨go, 1, none⟩ (.slice (some ⟨g', 0, none⟩) (n + 1) cap')) := by
  have hne : l.ownBlock ≠ some go := fun e => by have := (h3.base go e).1; omega
  have hk : Has w' go #[.bool c, l] 41 := (hg.block go h.out.lt (fun e => hne e.symm)).trans h.out
  have hb := h.hgo
  have hs := h.below.size
  refine ⟨⟨_, by simp [h1], pts_snoc h1 h2, ?_⟩, ?_, ?_, h.hgo⟩
  · exact ho.kept (grownBy_set (World.grownBy.refl _ _) _ _) (fun k hk e => by simp at hk; have := (ho.base k e).1; omega)
  · have := has_set hk 1 (.slice (some ⟨g', 0, none⟩) (n + 1) cap')
    simpa using this
  · exact (h.below.grown hg (by omega) (fun k e => by have := (h3.base k e).1; omega)).setCell (Nat.le_of_eq h.hgo) _
theorem Rpa.fine {w1 W w' : World} {go n : Nat} {c : Bool} {qs rs : List Pt} {l : Value} (h : Rpa w1 go c n qs l W) (h3 : Pown W (go + 1) l rs) (hg : W.grownBy w' l.ownBlock) : w'.cell? ⟨go, 1, none⟩ = some l ∧ w'.frozen? ⟨go, 1, none⟩ = false := by
  have hne : l.ownBlock ≠ some go := fun e => by have := (h3.base go e).1; omega
  have hk : Has w' go #[.bool c, l] 41 := (hg.block go h.out.lt (fun e => hne e.symm)).trans h.out
  exact ⟨hk.cell 1 _ rfl, has_fro hk 1⟩

theorem Rpa.set {w1 w0 wr : World} {go n : Nat} {c : Bool} {qs : List Pt} {l : Value} (h0 : Rpa w1 go c n qs l w0) (h : Rpa w1 go c n qs l wr) {k : Nat} (hk : w0.heap.size ≤ k) (j : Nat) (u : Value) : Rpa w1 go c n qs l (wr.setCell ⟨k, j, none⟩ u) := by
  obtain ⟨rs0, _, _, o0⟩ := h0.own
  obtain ⟨rs, h1, h2, h3⟩ := h.own
  have hs : wr.grownBy (wr.setCell ⟨k, j, none⟩ u) (some k) := grownBy_set (World.grownBy.refl _ _) _ _
  have a1 := h0.out.lt
  have a2 := h.hgo
  exact ⟨⟨rs, h1, h2, h3.kept hs (fun i hi e => by simp at hi; have := (o0.base i e).2; omega)⟩, has_grown h.out hs (by omega), h.below.setCell (by show w1.heap.size ≤ k; omega) _, h.hgo⟩
theorem Rpa.alloc {w1 wr : World} {go n : Nat} {c : Bool} {qs : List Pt} {l : Value} (h : Rpa w1 go c n qs l wr) (o : Obj) : Rpa w1 go c n qs l (wr.alloc o) := h.call ((Below.refl _ _).alloc (Nat.le_refl _) _)

set_option maxHeartbeats 2000000 in
theorem r8_morph {v u : Value} {ps qs : List Pt} {w : World} (c d : Bool) (t : Int) (h : Psl w v ps) (h2 : Psl w u qs) :
    Calls Tryz.prog 82 #[.agg #[.bool c, v], .agg #[.bool d, u], .int .i64 t] w (Gives w c (morph c ps d qs t)) := by
  obtain ⟨B, hB⟩ : ∃ B, w.heap.size = B := ⟨_, rfl⟩
  obtain ⟨w1, hW⟩ : ∃ W, ((w.alloc (.cells #[.bool c, v] 41)).alloc (.cells #[.bool d, u] 41)).alloc (.cells #[.bool false, .slice none 0 0] 41) = W := ⟨_, rfl⟩
  obtain ⟨W2, hW2⟩ : ∃ W, w1.alloc (.cells #[.bool c, .slice none 0 0] 41) = W := ⟨_, rfl⟩
  have ha : Has w1 B #[.bool c, v] 41 := by rw [← hW]; exact ((has_new hB).alloc _).alloc _
  have hbb : Has w1 (B + 1) #[.bool d, u] 41 := by rw [← hW]; exact (has_new (by simp [hB])).alloc _
  have hc : Has w1 (B + 1 + 1) #[.bool false, .slice none 0 0] 41 := by rw [← hW]; exact has_new (by simp [hB])
  have hbl : Below B w w1 := by rw [← hW]; exact (((Below.refl _ _).alloc (by omega) _).alloc (by simp; omega) _).alloc (by simp; omega) _
  have hsz : w1.heap.size = B + 1 + 1 + 1 := by rw [← hW]; simp [hB]
  have h' := h.below hbl (by omega)
  have h2' := h2.below hbl (by omega)
  obtain ⟨ms, hms⟩ : ∃ ms, morph c ps d qs t = ms := ⟨_, rfl⟩
  have R0 : Rpa w1 (B + 1 + 1 + 1) c 0 ms (.slice none 0 0) W2 := by
    rw [← hW2]
    exact ⟨⟨[], rfl, fun j hj => by omega, Pown.nil _ _⟩, has_new hsz, (Below.refl _ _).alloc (Nat.le_refl _) _, hsz⟩
  obtain ⟨ao, cap, rfl, hf, _⟩ := h
  obtain ⟨ao2, cap2, rfl, hf2, _⟩ := h2
  obtain ⟨N, hN⟩ : ∃ N, ps.length = N := ⟨_, rfl⟩
  have hlm : ms.length = N := by rw [← hms, morph_length]; exact hN
  rw [hN] at hf ha h' hW ⊢
  rw [hms]
  have HS1 := Lib.hid h'
  have HS2 := Lib.hid h2'
  have HB := Lib.hid hB
  have HW2 : Hid ((((w.alloc (.cells #[.bool c, .slice ao N cap] 41)).alloc (.cells #[.bool d, .slice ao2 qs.length cap2] 41)).alloc (.cells #[.bool false, .slice none 0 0] 41)).alloc (.cells #[.bool c, .slice none 0 0] 41) = W2) := Lib.hid (by rw [hW]; exact hW2)
  have HA := Lib.hid ha
  have HBB := Lib.hid hbb
  have HC := Lib.hid hc
  have HBL := Lib.hid hbl
  have HR0 := Lib.hid R0
  have HMS := Lib.hid hms
  have HLM := Lib.hid hlm
  have HN := Lib.hid hN
  have HSZ := Lib.hid hsz
  clear ha hbb hc hbl h' h2' R0 hW hW2 hms hlm hN hsz
  go_enter Tryz.func82, Tryz.ntmps82
  go_wp2
  rw [HW2.out]
  clear hB
  go_loopw [8, 9] (fun i _ wr => ∃ (n : Nat) (l : Value), n ≤ N ∧ i = .int .i64 n ∧ Rpa w1 (B + 1 + 1 + 1) c n ms l wr) (fun i _ _ => N - (intOf i).toNat)
  case atStart => exact ⟨0, _, by omega, rfl, HR0.out⟩
  case round =>
    clear HR0 HW2
    obtain ⟨n, l, hn, rfl, hR⟩ := hrel
    have R := Lib.hid hR
    have hsz := HSZ.out
    have hb := hR.below
    have ka := HA.out.below hb HA.out.lt
    have a1 := ka.cell 1 _ rfl
    by_cases hlt : n < N
    · obtain ⟨g1, o1, e1, r1, l1⟩ := (HS1.out.below hb (Nat.le_refl _)).row (by omega)
      subst e1
      have x0 := r1.c0 n (by omega)
      have x1 := r1.c1 n (by omega)
      have a0 := ka.cell 0 _ rfl
      have kb := HBB.out.below hb HBB.out.lt
      have b0 := kb.cell 0 _ rfl
      have b1 := kb.cell 1 _ rfl
      obtain ⟨p, hp⟩ : ∃ p, pt ps n = p := ⟨_, rfl⟩
      rw [hp] at x0 x1
      obtain ⟨V, hV⟩ : ∃ V, wr.alloc (.cells (pCells p) 29) = V := ⟨_, rfl⟩
      obtain ⟨gp, hgp⟩ : ∃ g, wr.heap.size = g := ⟨_, rfl⟩
      have bV : Below wr.heap.size wr V := by rw [← hV]; exact (Below.refl _ _).alloc (Nat.le_refl _) _
      have RV := Lib.hid (hR.call bV)
      have KP : Has V gp (pCells p) 29 := by rw [← hV]; exact has_new hgp
      have bV1 : Below w1.heap.size w1 V := hb.trans (bV.mono hb.size)
      have F := Lib.hid (r8_fits c d (HS1.out.below bV1 (Nat.le_refl _)) (HS2.out.below bV1 (Nat.le_refl _)))
      have HGP := Lib.hid hgp
      have HV := Lib.hid hV
      have HKP := Lib.hid KP
      have HP := Lib.hid hp
      have B1 := Lib.hid bV1
      have o3 : (n : Int) < N := by omega
      have lgp : w1.heap.size ≤ gp := by have := hb.size; omega
      have va0 := (HA.out.below bV1 HA.out.lt).cell 0 _ rfl
      have va1 := (HA.out.below bV1 HA.out.lt).cell 1 _ rfl
      have vb0 := (HBB.out.below bV1 HBB.out.lt).cell 0 _ rfl
      have vb1 := (HBB.out.below bV1 HBB.out.lt).cell 1 _ rfl
      clear KP bV1 bV hV hp r1 l1 ka kb hb hR
      obtain ⟨px, py⟩ := p
      simp only at x0 x1
      go_upto_region 6 with fail
      rw [HV.out]
      clear hgp a0 a1 b0 b1 x0 x1
      go_wp2_with fail
      refine F.out.mono ?_
      rintro e w2 ⟨rfl, hq⟩
      have R2 := Lib.hid (RV.out.call hq)
      have kp := HKP.out.below hq HKP.out.lt
      have b2 := B1.out.trans (hq.mono B1.out.size)
      have HKP2 := Lib.hid kp
      have B2 := Lib.hid b2
      clear hq RV HKP B1 F va0 va1 vb0 vb1 HV
      have sgp : Hid (gp < w2.heap.size) := Lib.hid kp.lt
      obtain ⟨rs, q1, q2, q3⟩ := R2.out.own
      have Q1 := Lib.hid q1
      have Q2 := Lib.hid q2
      have Q3 := Lib.hid q3
      clear q1 q2 q3
      by_cases hfit : fits c ps d qs = true
      · rw [hfit]
        have hl : N = qs.length := by simp [fits] at hfit; rw [← HN.out]; exact hfit.1
        have EM : pt ms n = ⟨mid px (pt qs n).x t, mid py (pt qs n).y t⟩ := by rw [← HMS.out, morph_yes hfit, pt_midL (by rw [HN.out]; exact hlt), HP.out]; rfl
        have HEM := Lib.hid EM
        obtain ⟨g2, o2, e2, r2, l2⟩ := (HS2.out.below b2 (Nat.le_refl _)).row (by omega)
        subst e2
        have kb := HBB.out.below b2 HBB.out.lt
        have p0 := Later.read kp 0 _ rfl
        have p1 := Later.read kp 1 _ rfl
        have b1 := Later.read kb 1 _ rfl
        have y0 := fun z => (r2.later (by omega) z).c0 n (by omega)
        have y1 := fun z => (r2.later (by omega) z).c1 n (by omega)
        have o4 : (n : Int) < qs.length := by omega
        clear r2 l2 kb kp b2 EM hfit hl
        go_upto_region 7 with fail
        refine wp_region_tail_lit (C := fun w' => ∃ z : Later w2, w' = z.to) 21 (by kernel_rfl) (by kernel_rfl) (by kernel_rfl) (by kernel_rfl) ⟨⟨_, below_drew (Below.refl _ _)⟩, rfl⟩ ?_
        simp only [List.take_succ_cons, List.take_zero, List.drop_succ_cons, List.drop_zero]
        repeat (go_big_quiet_step (first | (go_at_call 79; exact Later.calls (below_drawn (r_mid _ _ _ _)))))
        refine wpQuiet_nil ?_
        rintro _ ⟨z, rfl⟩
        obtain ⟨V3, hV3⟩ : ∃ V, z.to = V := ⟨_, rfl⟩
        have R3 := R2.out.call z.below
        have K3 := HKP2.out.below z.below HKP2.out.lt
        rw [hV3] at R3 K3 ⊢
        have s0 := K3.cell 0 _ rfl
        have s1 := K3.cell 1 _ rfl
        have fz := has_fro K3
        obtain ⟨XX, hXX⟩ : ∃ X, (V3.setCell ⟨gp, 0, none⟩ (.int .i64 (mid px (pt qs n).x t))).setCell ⟨gp, 1, none⟩ (.int .i64 (mid py (pt qs n).y t)) = X := ⟨_, rfl⟩
        have X : Hid (Rpa w1 (B + 1 + 1 + 1) c n ms l XX) := Lib.hid (by rw [← hXX]; exact Rpa.set R.out (Rpa.set R.out R3 (by rw [HGP.out]; exact Nat.le_refl _) _ _) (by rw [HGP.out]; exact Nat.le_refl _) _ _)
        have KX : Hid (Has XX gp (pCells (pt ms n)) 29) := Lib.hid (by
          rw [← hXX, HEM.out]
          have := has_set (has_set K3 0 (.int .i64 (mid px (pt qs n).x t))) 1 (.int .i64 (mid py (pt qs n).y t))
          simpa using this)
        have HXX := Lib.hid hXX
        have NF : Hid (n < 8796093022208) := Lib.hid (by omega)
        clear hV3 hXX R3 K3 p0 p1 b1 y0 y1 HKP2 B2 Q1 Q2 Q3 R2
        go_upto_region 8 with fail
        rw [HXX.out]
        clear s0 s1 fz
        have k1 := X.out.out.cell 1 _ rfl
        have k2 := KX.out.cell 0 _ rfl
        have k3 := KX.out.cell 1 _ rfl
        obtain ⟨rs', q1, q2, q3⟩ := X.out.own
        have Q1' := Lib.hid q1
        have Q2' := Lib.hid q2
        have Q3' := Lib.hid (q3.alloc (.cells (pCells (pt ms n)) 29))
        have SX : Hid (B + 1 + 1 + 1 + 1 ≤ (XX.alloc (.cells (pCells (pt ms n)) 29)).heap.size) := Lib.hid (by have := X.out.out.lt; simp; omega)
        clear q1 q2 q3
        obtain ⟨aol, capl, rfl⟩ := X.out.len
        go_wp2_with (at_builtin; refine wpList_append_one rfl _ _ rfl n Q1'.out NF.out rfl XX.heap.size rfl (pt ms n) _ has_new0 rfl Q3'.out SX.out ?_)
        intro g' cap' w4 ho hg
        have fn := (X.out.alloc _).fine Q3'.out hg
        have f0 := fn.1
        have f1 := fn.2
        have R9 := Lib.hid ((X.out.alloc _).snoc Q1'.out Q2'.out Q3'.out ho hg)
        clear fn ho hg k1 k2 k3
        go_wp2
        go_roundw
        case rel => exact ⟨n + 1, _, by omega, by go_num, R9.out⟩
        case measure => simp [intOf]; omega
      · have hfit' : fits c ps d qs = false := by simpa using hfit
        rw [hfit']
        have EM : pt ms n = ⟨px, py⟩ := by rw [← HMS.out, morph_no hfit']; exact HP.out
        obtain ⟨XX, hXX⟩ : ∃ X, w2 = X := ⟨_, rfl⟩
        have X : Hid (Rpa w1 (B + 1 + 1 + 1) c n ms l XX) := Lib.hid (by rw [← hXX]; exact R2.out)
        have KX : Hid (Has XX gp (pCells (pt ms n)) 29) := Lib.hid (by rw [← hXX, EM]; exact HKP2.out)
        have NF : Hid (n < 8796093022208) := Lib.hid (by omega)
        subst hXX
        clear EM hfit hfit' HKP2 B2 Q1 Q2 Q3 R2 b2 kp
        go_upto_region 8 with fail
        skip
        have k1 := X.out.out.cell 1 _ rfl
        have k2 := KX.out.cell 0 _ rfl
        have k3 := KX.out.cell 1 _ rfl
        obtain ⟨rs', q1, q2, q3⟩ := X.out.own
        have Q1' := Lib.hid q1
        have Q2' := Lib.hid q2
        have Q3' := Lib.hid (q3.alloc (.cells (pCells (pt ms n)) 29))
        have SX : Hid (B + 1 + 1 + 1 + 1 ≤ (w2.alloc (.cells (pCells (pt ms n)) 29)).heap.size) := Lib.hid (by have := X.out.out.lt; simp; omega)
        clear q1 q2 q3
        obtain ⟨aol, capl, rfl⟩ := X.out.len
        go_wp2_with (at_builtin; refine wpList_append_one rfl _ _ rfl n Q1'.out NF.out rfl w2.heap.size rfl (pt ms n) _ has_new0 rfl Q3'.out SX.out ?_)
        intro g' cap' w4 ho hg
        have fn := (X.out.alloc _).fine Q3'.out hg
        have f0 := fn.1
        have f1 := fn.2
        have R9 := Lib.hid ((X.out.alloc _).snoc Q1'.out Q2'.out Q3'.out ho hg)
        clear fn ho hg k1 k2 k3
        go_wp2
        go_roundw
        case rel => exact ⟨n + 1, _, by omega, by go_num, R9.out⟩
        case measure => simp [intOf]; omega
    · obtain rfl : n = N := by omega
      obtain ⟨rs, q1, q2, q3⟩ := hR.own
      have e : rs = ms := pts_ext (by rw [HLM.out]; exact q1) (by rw [q1]; exact q2)
      subst e
      have kc := HC.out.below hb HC.out.lt
      have v0 := kc.cell 0 _ rfl
      have v1 := kc.cell 1 _ rfl
      have fz := has_fro kc
      have q0 := hR.out.cell 0 _ rfl
      have q1' := hR.out.cell 1 _ rfl
      obtain ⟨aol, capl, rfl⟩ := hR.len
      have RR := Lib.hid (gives_put (w := w) (r := B + 1 + 1) (c := c) HB.out (q3.lower (by omega)) (fun e => by have := (q3.base _ e).1; omega) (by omega) (HBL.out.trans (hb.mono (by omega))) rfl (.bool c) _ rfl)
      have o3 : (n : Int) ≤ n := by omega
      clear kc hb hR R q3 q2 q1 ka hsz
      go_wp2
      refine bodyPost_ret (v := .agg #[.bool c, .slice aol n capl]) (by simp [results, Tryz.results82, go_sem, v0, v1]) rfl ?_
      exact RR.out

end Go.Proofs.YtglbfpjjnboeaaaGreat
