/- The walk of mutoscopelaw9.ArcWhole: for whatever tape it returns true; of the memory nothing that was there turns. -/
import Derived.Test.YtddcjdhlmlhgdaaN4
import Derived.Test.YtddcjdhlmlhgdaaCM9
import Derived.Test.YtddcjdhlmlhgdaaK9
import Derived.Test.YtddcjdhlmlhgdaaPT9
import Derived.Test.YtddcjdhlmlhgdaaQ8
namespace Go.Proofs.Ytddcjdhlmlhgdaa
open Go Go.RowKit
open M

theorem Small9.plc {ps : List Pt} (h : Small9 ps) {i : Nat} (hi : i < ps.length) : M.plc (pt ps i) = pt ps i := by
  obtain ⟨h1, h2, h3, h4⟩ := h i hi
  obtain ⟨x, hx⟩ : ∃ p, pt ps i = p := ⟨_, rfl⟩
  rw [hx] at h1 h2 h3 h4 ⊢
  obtain ⟨a, b⟩ := x
  simp only at h1 h2 h3 h4
  simp only [M.plc, place_in (a := a) (by omega) (by omega), place_in (a := b) (by omega) (by omega)]
theorem Small9.sa {ps : List Pt} (h : Small9 ps) {i : Nat} (hi : i < ps.length) : M.sa ps i = pt ps i := h.plc hi
theorem Small9.sb {ps : List Pt} (h : Small9 ps) {i : Nat} (hi : i < ps.length) : M.sb ps i = pt ps (nxt ps.length i) := h.plc (nxt_lt hi)
theorem vs9_two {p q : Pt} : ∀ y ∈ [(15, 17, pCells p), (16, 18, pCells q)], (y.1 = 15 → y = (15, 17, pCells p)) ∧ (y.1 = 16 → y = (16, 18, pCells q)) := by
  intro y hy
  simp at hy
  rcases hy with rfl | rfl <;> simp
theorem hsetW {W : World} {k : Nat} {t : TypeId} {a' b' : Value} (h : Has W k #[a', b'] t) (a b : Value) : Has ((W.setCell ⟨k, 0, none⟩ a).setCell ⟨k, 1, none⟩ b) k #[a, b] t := nset2 h a b
/-- What stays while the corners are told: the poly in block gp, its part in block gx, the corners in blocks of the call's own. -/
structure Wh (B : Nat) (w : World) (gp gx : Nat) (c : Bool) (l x : Value) (ps xs : List Pt) (t : Value) (rs : List Pt) (wr : World) : Prop where
  below : Below B w wr
  size : B ≤ wr.heap.size
  src : Has wr gp #[.bool c, l] 24
  out : Has wr gx #[.bool false, x] 24
  sl : Psl wr l ps
  sx : Psl wr x xs
  own : Pown wr (gx + 1) t rs
  lo : gp < gx
  bo : B ≤ gp
  nl : ∀ k, l.ownBlock = some k → k < gp
  nx : ∀ k, x.ownBlock = some k → k < gx
section
variable {B : Nat} {w wr w' : World} {gp gx : Nat} {c : Bool} {l x t t' : Value} {ps xs rs qs : List Pt}
theorem Wh.later (h : Wh B w gp gx c l x ps xs t rs wr) (hq : Below wr.heap.size wr w') : Wh B w gp gx c l x ps xs t rs w' :=
  ⟨h.below.trans (hq.mono h.size), Nat.le_trans h.size hq.size, h.src.below hq h.src.lt, h.out.below hq h.out.lt, h.sl.below hq (Nat.le_refl _), h.sx.below hq (Nat.le_refl _), h.own.below hq (Nat.le_refl _), h.lo, h.bo, h.nl, h.nx⟩
theorem Wh.alloc (h : Wh B w gp gx c l x ps xs t rs wr) (o : Obj) : Wh B w gp gx c l x ps xs t rs (wr.alloc o) := h.later ((Below.refl _ _).alloc (Nat.le_refl _) _)
theorem Wh.grow (h : Wh B w gp gx c l x ps xs t rs wr) (ho : Pown w' (gx + 1) t' qs) (hg : wr.grownBy w' t.ownBlock) : Wh B w gp gx c l x ps xs t' qs w' := by
  have hb : ∀ k, t.ownBlock = some k → gx + 1 ≤ k := fun k hk => (h.own.base k hk).1
  have h1 := h.lo
  have h2 := h.bo
  refine ⟨h.below.grown hg h.size (fun k hk => by have := hb k hk; omega), Nat.le_trans h.size hg.size, ?_, ?_, ?_, ?_, ho, h1, h2, h.nl, h.nx⟩
  · exact (hg.block gp h.src.lt (fun e => by have := hb gp e.symm; omega)).trans h.src
  · exact (hg.block gx h.out.lt (fun e => by have := hb gx e.symm; omega)).trans h.out
  · exact h.sl.grown hg (fun k hk e => by have := hb k hk; have := h.nl k e; omega)
  · exact h.sx.grown hg (fun k hk e => by have := hb k hk; have := h.nx k e; omega)
end

set_option maxRecDepth 100000 in
set_option maxHeartbeats 8000000 in
theorem arcWhole_walk {w : World} (l1 : Value) (_ : Unit) (hN1 : Nums w l1) :
    Calls Try.prog 5 #[l1] w fun r w' => r = .returned (.bool true) ∧ Below w.heap.size w w' := by
  obtain ⟨B, hB⟩ : ∃ B, w.heap.size = B := ⟨_, rfl⟩
  obtain ⟨W, hW⟩ : ∃ W, w.alloc (.cells #[l1, .int .i64 0] 36) = W := ⟨_, rfl⟩
  have hb0 : Below w.heap.size w W := by rw [← hW]; exact (Below.refl _ _).alloc (Nat.le_refl _) _
  have T1 : Tp W B l1 := tp_start hN1 (by rw [← hW]; exact has_new hB) hb0 (by omega)
  have sz0 : W.heap.size = B + 1 := by rw [← hW]; simp [hB]
  rw [hB] at hb0
  obtain ⟨a1, n1, c1, rfl⟩ := hN1.shape
  have HB := Lib.hid hB
  have HW := Lib.hid hW
  have HB0 := Lib.hid hb0
  have SZ := Lib.hid sz0
  have PL := Lib.hid (l9_poly _ _ _ T1)
  clear hb0 T1 hW hN1 sz0
  go_enter Try.func5, Try.ntmps5
  go_wp2_with fail
  rw [HW.out]
  clear hB
  refine PL.out.mono ?_
  rintro e w1 ⟨c, pl, ps, rfl, h12, sm, ho, tp1, hg1⟩
  have sl1 := ho.sl (by omega)
  obtain ⟨ao, cap, hv⟩ := ho.len
  obtain ⟨N, hN⟩ : ∃ N, ps.length = N := ⟨_, rfl⟩
  rw [hN] at hv h12
  subst hv
  obtain ⟨gp, hgp⟩ : ∃ g, w1.heap.size = g := ⟨_, rfl⟩
  obtain ⟨V, hV⟩ : ∃ V, w1.alloc (.cells #[.bool c, .slice ao N cap] 24) = V := ⟨_, rfl⟩
  have KP : Has V gp #[.bool c, .slice ao N cap] 24 := by rw [← hV]; exact has_new hgp
  have SP : Psl V (.slice ao N cap) ps := by rw [← hV]; exact sl1.alloc _
  have lgp : B < gp := by have := hg1.size; have := SZ.out; omega
  have bV : Below B w V := by
    rw [← hV]
    have q := SZ.out
    have q3 := hg1.size
    exact (below_on HB0.out hg1 (by omega) (by omega)).alloc (by omega) _
  have sV : V.heap.size = gp + 1 := by rw [← hV]; simp [hgp]
  have NL : Hid (∀ k, Value.ownBlock (.slice ao N cap) = some k → k < gp) := Lib.hid (fun k hk => by have := (ho.base k hk).2; omega)
  have XP := Lib.hid KP
  have XS := Lib.hid SP
  have BV := Lib.hid bV
  have HV := Lib.hid hV
  have SV := Lib.hid sV
  have HN := Lib.hid hN
  have SM := Lib.hid sm
  have r0 := KP.cell 0 _ rfl
  have r1 := KP.cell 1 _ rfl
  clear KP SP bV hV sV sl1 ho tp1 hg1 sm hN PL HB0
  go_upto_region 2 with fail
  rw [HV.out]
  clear hgp
  have L7 : Hid (ps.length ≤ 700) := Lib.hid (by have := HN.out; omega)
  obtain ⟨n, hn⟩ : ∃ n, lengthL c ps = n := ⟨_, rfl⟩
  have AL := Lib.hid (hn ▸ a_length c XS.out)
  have n0 : 0 ≤ n := hn ▸ (lenN_in ps (sidesN c ps.length)).1
  have n1' : n ≤ 1099511627776 := hn ▸ (lenN_in ps (sidesN c ps.length)).2
  obtain ⟨xs, hxs⟩ : ∃ xs, cutL c ps 0 n = xs := ⟨_, rfl⟩
  have lx : xs.length ≤ 20 := by rw [← hxs]; have := cutL_length c ps 0 n; have := HN.out; omega
  have AP := Lib.hid (fun (w' : World) (hs : Psl w' (.slice ao N cap) ps) => hxs ▸ a_part c 0 n hs (by have := L7.out; omega))
  have HNN := Lib.hid hn
  have HXS := Lib.hid hxs
  clear hn hxs
  go_wp2_with fail
  refine AL.out.mono ?_
  rintro e w2 ⟨rfl, hq2⟩
  have b2 : Hid (Below V.heap.size V w2) := Lib.hid hq2
  have kk := XP.out.below hq2 XP.out.lt
  have r0 := kk.cell 0 _ rfl
  have r1 := kk.cell 1 _ rfl
  clear hq2 kk AL
  go_wp2_with fail
  refine (AP.out _ (XS.out.below b2.out (Nat.le_refl _))).mono ?_
  rintro e w3 ⟨xv, rfl, ho3, hq3⟩
  have sx3 := ho3.sl (by omega)
  obtain ⟨ax, cx, hv⟩ := ho3.len
  obtain ⟨X, hX⟩ : ∃ X, xs.length = X := ⟨_, rfl⟩
  rw [hX] at hv
  subst hv
  obtain ⟨gx, hgx⟩ : ∃ g, w3.heap.size = g := ⟨_, rfl⟩
  obtain ⟨U, hU⟩ : ∃ U, w3.alloc (.cells #[.bool false, .slice ax X cx] 24) = U := ⟨_, rfl⟩
  have b3 : Below V.heap.size V w3 := b2.out.trans (hq3.mono b2.out.size)
  have WU : Wh B w gp gx c (.slice ao N cap) (.slice ax X cx) ps xs (.slice none 0 0) [] U := by
    have q1 := SV.out
    have q2 := b3.size
    have q4 : Below B w w3 := BV.out.trans (b3.mono (by omega))
    have q5 := XP.out.below b3 XP.out.lt
    have q6 := XS.out.below b3 (Nat.le_refl _)
    rw [← hU]
    exact ⟨q4.alloc (by omega) _, by simp; omega, q5.alloc _, has_new hgx, q6.alloc _, sx3.alloc _, Pown.nil _ _, by omega, by omega, NL.out, fun k hk => by have := (ho3.base k hk).2; omega⟩
  have WH := Lib.hid WU
  have HU := Lib.hid hU
  have HX := Lib.hid hX
  clear WU hU hX ho3 sx3 hq3 b3 b2 AP XP XS BV HV SV NL r0 r1
  go_upto_region 4 with fail
  rw [HU.out]
  clear hgx
  have x0 := WH.out.out.cell 0 _ rfl
  have x1 := WH.out.out.cell 1 _ rfl
  by_cases hz : n = 0
  · have X0 : X = 0 := by
      have q := HX.out
      rw [← HXS.out, ← HNN.out, cut_nothing (HNN.out.trans hz)] at q
      simpa using q.symm
    subst X0
    subst hz
    go_wp2_with fail
    refine (known9 _).mono ?_
    rintro e w4 ⟨rfl, hq4⟩
    have W4 := Lib.hid (WH.out.later hq4)
    clear hq4 x0 x1
    go_wp2
    go_ret
    exact ⟨rfl, by rw [HB.out]; exact W4.out.below⟩
  · obtain ⟨M, hM⟩ : ∃ M, sidesN c ps.length = M := ⟨_, rfl⟩
    have hMN : M ≤ N := by rw [← hM, HN.out]; exact sidesN_le c N
    have EX : Hid (xs = corN ps 0 M) := Lib.hid (by rw [← HXS.out, ← HNN.out, cut_whole L7.out (by rw [HNN.out]; exact hz), hM])
    have hX2 : 2 ≤ X := by
      have q := whole_two (c := c) L7.out (by rw [HNN.out]; exact hz)
      rw [hM, ← EX.out, HX.out] at q
      exact q
    have LX : Hid (lengthL false xs = n) := Lib.hid (by
      have q := whole_long (c := c) L7.out
      rw [hM, ← EX.out, HNN.out] at q
      exact q)
    have o1 : ¬ (X : Int) < 2 := by omega
    have oX : (X : Int) ≤ 20 := by have := HX.out; omega
    have SD : Hid (∀ w : World, Calls Try.prog 16 #[.agg #[.bool c, .slice ao N cap]] w fun r w' => r = .returned (.int .i64 (M : Int)) ∧ Below w.heap.size w w') := Lib.hid (fun w => by have q := a_sides c ao N cap (by omega) w; rw [← HN.out] at q; rw [hM] at q; rw [HN.out] at q; exact q)
    clear hM
    go_wp2_with fail
    go_loopw [6, 7] (fun t i wr => ∃ m : Nat, m ≤ M ∧ i = .int .i64 m ∧ Wh B w gp gx c (.slice ao N cap) (.slice ax X cx) ps xs t (corN ps 0 m) wr) (fun _ i _ => M - (intOf i).toNat)
    case atStart => exact ⟨0, by omega, rfl, WH.out⟩
    case round =>
      clear WH x0 x1
      obtain ⟨m, hm, rfl, hW⟩ := hrel
      obtain ⟨tv, rfl⟩ : ∃ tv, tv = u6 := ⟨_, rfl⟩
      have H5 := Lib.hid hW
      have c0 := hW.src.cell 0 _ rfl
      have c1 := hW.src.cell 1 _ rfl
      clear hW
      by_cases hlt : m < M
      · have o3 : (m : Int) < M := by omega
        have o5 : (m : Int) ≤ 12 := by omega
        go_wp2_with fail
        refine (SD.out _).mono ?_
        rintro e w5 ⟨rfl, hq5⟩
        have H6 := Lib.hid (H5.out.later hq5)
        clear hq5 c0 c1 H5
        obtain ⟨g, o, e1, row⟩ : ∃ g o, ao = some ⟨g, o, none⟩ ∧ Prow w5 g o ps := by
          obtain ⟨ao', cap', hv, _, hr⟩ := H6.out.sl
          simp at hv
          obtain ⟨rfl, _⟩ := hv
          exact hr (by have := HN.out; omega)
        subst e1
        obtain ⟨j, hj⟩ : ∃ j, nxt N m = j := ⟨_, rfl⟩
        obtain ⟨p, hp⟩ : ∃ p, pt ps m = p := ⟨_, rfl⟩
        obtain ⟨q, hq⟩ : ∃ q, pt ps j = q := ⟨_, rfl⟩
        have EA : Hid (sa ps (0 + m) = p) := Lib.hid (by rw [Nat.zero_add, SM.out.sa (by have := HN.out; omega), hp])
        have EB : Hid (sb ps (0 + m) = q) := Lib.hid (by rw [Nat.zero_add, SM.out.sb (by have := HN.out; omega), HN.out, hj, hq])
        have hjl : j < N := by rw [← hj]; exact nxt_lt (by omega)
        have hmod : Int.tmod ((m : Int) + 1) (N : Int) = (j : Int) := by rw [nxt_mod (by omega), hj]
        have PX : Hid (∀ (R : World → Prop) (z : LaterR w5 R), (z.to.cell? ⟨g, o + m * 2, none⟩ = some (.int .i64 p.x) ∧ z.to.cell? ⟨g, o + m * 2 + 1, none⟩ = some (.int .i64 p.y)) ∧ (z.to.cell? ⟨g, o + j * 2, none⟩ = some (.int .i64 q.x) ∧ z.to.cell? ⟨g, o + j * 2 + 1, none⟩ = some (.int .i64 q.y))) := Lib.hid (fun R z => ⟨row.laterR (by have := HN.out; omega) hp z, row.laterR (by have := HN.out; omega) hq z⟩)
        have oi : (m : Int) < N := by omega
        have oj : (j : Int) < N := by omega
        have oN : ¬ (N : Int) = 0 := by omega
        clear row hp hq hj
        go_upto_region 12 with fail
        refine wp_region_gen 18 [15, 16, 17] [] [0, 0, 0, 0, 0, 0, 0, 0, 0, 0, 0, 0, 0, 0, 0, 1, 1, 1] (by kernel_rfl) (by kernel_rfl) (fun c a d v w h => by cases d <;> exact h) trivial (fun G w' => Vars w5.heap.size 32 #[.int .i64 0, .int .i64 0] [(15, 17, pCells p), (16, 18, pCells q)] G w') (fun G w w' h hb => h.stay hb) Vars.start ?_
        apply Exists.intro
        refine ⟨fun R hR hN => ?_, ?_, ?_⟩
        · have y1 := fun z => LaterR.read (R := R) H6.out.src 1 _ rfl z
          have A0 := fun z => (PX.out R z).1.1
          have A1 := fun z => (PX.out R z).1.2
          have B0 := fun z => (PX.out R z).2.1
          have B1 := fun z => (PX.out R z).2.2
          simp only [quietL, takeA]
          repeat (go_big_quiet_step (fail))
          exact wpQuiet_nil rfl
        · intro i oo hi ho
          have hi' : i = 15 ∨ i = 16 ∨ i = 17 := by simpa using hi
          clear hi
          rcases hi' with rfl | rfl | rfl
          · cases ho
            intro G w' hG hGn hdep hb hR
            refine ⟨rfl, gives_none (by kernel_rfl) hGn ?_⟩
            unfold gives
            simp [go_sem]
            exact ⟨hb.alloc hb.size _, hR.alloc (i := 15) (s := 17) (cs := pCells p) rfl (by simp) (fun y hy he => (vs9_two y hy).1 he) hG hb.size⟩
          · cases ho
            intro G w' hG hGn hdep hb hR
            refine ⟨rfl, gives_none (by kernel_rfl) hGn ?_⟩
            unfold gives
            simp [go_sem]
            exact ⟨hb.alloc hb.size _, hR.alloc (i := 16) (s := 18) (cs := pCells q) rfl (by simp) (fun y hy he => (vs9_two y hy).2 he) hG hb.size⟩
          · cases ho
            intro G w' hG hGn hdep hb hR
            obtain ⟨v, hv⟩ := Option.ne_none_iff_exists'.1 (hdep 15 (by simp) (by kernel_rfl))
            obtain ⟨gx', rfl, hgx, hhx⟩ := hR.has (15, 17, pCells p) (by simp) v hv
            rw [if_pos hG] at hhx
            refine ⟨rfl, gives_one (k := 15) (by kernel_rfl) hGn (by omega) hv ?_⟩
            have cx0 := hhx.cell 0 _ rfl
            have cx1 := hhx.cell 1 _ rfl
            have fx := has_fro hhx
            unfold gives
            simp [go_sem, dstAt, Act.put, cx0, cx1, fx]
            exact ⟨(hb.setCell hgx _).setCell hgx _, hR.store (i := 15) (s := 17) (za := .int .i64 0) (zb := .int .i64 0) rfl rfl (by simp) (fun y hy he => (vs9_two y hy).1 he) hv hG⟩
        intro G w3 hb3 hR hG hN'
        obtain ⟨v0, e0⟩ := hG 15 (by simp)
        obtain ⟨v1, e1⟩ := hG 16 (by simp)
        obtain ⟨s0, t0⟩ := hG 17 (by simp)
        obtain ⟨ga, rfl, l0, k0⟩ := hR.has (15, 17, pCells p) (by simp) v0 e0
        obtain ⟨gb, rfl, l1, k1⟩ := hR.has (16, 18, pCells q) (by simp) v1 e1
        rw [if_neg (by simp [t0])] at k0
        rw [if_pos (hN' 18 (by simp))] at k1
        have nab : ga ≠ gb := fun e => hR.ne (15, 17, pCells p) (by simp) (16, 18, pCells q) (by simp) (by simp) _ e0 (by rw [e1, e])
        have nn : ∀ j, j < 15 → G j = none := fun j hj => hN' j (by simp; omega)
        simp only [putV, dstAt, e0, e1, t0, nn 0 (by decide), nn 1 (by decide), nn 2 (by decide), nn 3 (by decide), nn 4 (by decide), nn 5 (by decide), nn 6 (by decide), nn 7 (by decide), nn 8 (by decide), nn 9 (by decide), nn 10 (by decide), nn 11 (by decide), nn 12 (by decide), nn 13 (by decide), nn 14 (by decide), List.drop_succ_cons, List.drop_zero, List.getElem?_cons_succ, List.getElem?_cons_zero, Option.bind_some]
        have c30 := k1.cell 0 _ rfl
        have c31 := k1.cell 1 _ rfl
        have f3 := has_fro k1
        obtain ⟨V2, hV2⟩ : ∃ V, (w3.setCell ⟨gb, 0, none⟩ (.int .i64 q.x)).setCell ⟨gb, 1, none⟩ (.int .i64 q.y) = V := ⟨_, rfl⟩
        have v0 : Has V2 ga (pCells p) 32 := by rw [← hV2]; exact noff2 k0 (Ne.symm nab) _ _
        have v1 : Has V2 gb (pCells q) 32 := by rw [← hV2]; exact nset2 k1 _ _
        have b7 : Below w5.heap.size w5 V2 := by rw [← hV2]; exact (hb3.setCell l1 _).setCell l1 _
        have H7 := Lib.hid (H6.out.later b7)
        have NA : Hid (tv.ownBlock ≠ some ga ∧ tv.ownBlock ≠ some gb) := Lib.hid ⟨fun e => by have := (H6.out.own.base ga e).2; omega, fun e => by have := (H6.out.own.base gb e).2; omega⟩
        have VA := Lib.hid v0
        have VB := Lib.hid v1
        have HV2 := Lib.hid hV2
        clear k0 k1 hb3 v0 v1 b7 hV2 l0 l1 hR hG hN' nn e0 e1 t0 nab H6 PX
        go_upto_region 13 with fail
        rw [HV2.out]
        clear c30 c31 f3 HV2
        have a0 := VA.out.cell 0 _ rfl
        have a1 := VA.out.cell 1 _ rfl
        have b0 := VB.out.cell 0 _ rfl
        have b1 := VB.out.cell 1 _ rfl
        by_cases hpq : p = q
        · have CN := Lib.hid (corN_off (ps := ps) (k := 0) (m := m) (by rw [EA.out, EB.out, hpq]))
          subst hpq
          go_wp2
          go_roundw
          case rel => exact ⟨m + 1, by omega, by go_num, by rw [CN.out]; exact H7.out⟩
          case measure => simp [intOf]; omega
        · have NE : p.x ≠ q.x ∨ (p.x = q.x ∧ p.y ≠ q.y) := by
            obtain ⟨px, py⟩ := p
            obtain ⟨qx, qy⟩ := q
            simp only [Pt.mk.injEq] at hpq ⊢
            omega
          have HPQ : Hid (¬ sa ps (0 + m) = sb ps (0 + m)) := Lib.hid (by rw [EA.out, EB.out]; exact hpq)
          obtain ⟨T, hT⟩ : ∃ k, (corN ps 0 m).length = k := ⟨_, rfl⟩
          have hT13 : T ≤ 14 := by have := corN_length ps 0 m; omega
          obtain ⟨at_, ct, hv⟩ := H7.out.own.len
          rw [hT] at hv
          subst hv
          have HT := Lib.hid hT
          obtain ⟨rs, hrs⟩ : ∃ rs, corN ps 0 m = rs := ⟨_, rfl⟩
          rw [hrs] at H7 HT
          have HRS := Lib.hid hrs
          clear hT hrs hpq
          have S7 : Hid (gx + 1 ≤ (V2.alloc (.cells (pCells p) 32)).heap.size) := Lib.hid (by have := H7.out.out.lt; simp; omega)
          have S8 : Hid (gx + 1 ≤ (V2.alloc (.cells (pCells q) 32)).heap.size) := Lib.hid (by have := H7.out.out.lt; simp; omega)
          have T1 : Hid (T + 1 ≤ 1000) := Lib.hid (by omega)
          have HA7 := Lib.hid (H7.out.alloc (.cells (pCells p) 32))
          have HA8 := Lib.hid (H7.out.alloc (.cells (pCells q) 32))
          by_cases hz : T = 0
          · have hz' : (T : Int) = 0 := by omega
            have RS0 : Hid (rs = []) := Lib.hid (List.eq_nil_of_length_eq_zero (by rw [HT.out]; exact hz))
            have CN := Lib.hid (corN_first (ps := ps) (k := 0) (m := m) HPQ.out (by rw [HRS.out, HT.out]; exact hz))
            rcases NE with h | ⟨h, h2⟩
            all_goals
              go_upto_region 15 with fail
              clear h
              try clear h2
              have HZ := Lib.hid hz
              clear hz hz'
              go_wp2_with (at_builtin; refine wpList_append_pl rfl _ _ rfl T HT.out rfl V2.heap.size 0 1 1 rfl [p] rfl (by decide) T1.out (prow_one p _) HA7.out.own S7.out ?_)
              intro g1 cap1 w8 ho hg hat
              have H8 := Lib.hid (HA7.out.grow ho hg)
              have kb := (hg.block gb (VB.out.alloc (.cells (pCells p) 32)).lt (fun e => NA.out.2 e.symm)).trans (VB.out.alloc (.cells (pCells p) 32))
              have kb : Has w8 gb (pCells q) 32 := kb
              have b0 := kb.cell 0 _ rfl
              have b1 := kb.cell 1 _ rfl
              have HA9 := Lib.hid (H8.out.alloc (.cells (pCells q) 32))
              have S9 : Hid (gx + 1 ≤ (w8.alloc (.cells (pCells q) 32)).heap.size) := Lib.hid (by have := H8.out.out.lt; simp; omega)
              have T2 : Hid (T + 1 + 1 ≤ 1000) := Lib.hid (by have := T1.out; have := HZ.out; omega)
              have HT2 : Hid ((rs ++ [p]).length = T + 1) := Lib.hid (by rw [List.length_append, HT.out]; rfl)
              clear ho hg hat kb
              go_wp2_with (at_builtin; refine wpList_append_pl rfl _ _ rfl (T + 1) HT2.out rfl w8.heap.size 0 1 1 rfl [q] rfl (by decide) T2.out (prow_one q _) HA9.out.own S9.out ?_)
              intro g2 cap2 w9 ho hg hat
              have H9 := Lib.hid (HA9.out.grow ho hg)
              clear ho hg hat a0 a1 b0 b1
              go_wp2
              go_roundw
              case rel => exact ⟨m + 1, by omega, by go_num, by rw [CN.out, EA.out, EB.out]; have qq := H9.out; rw [RS0.out] at qq; exact qq⟩
              case measure => simp [intOf]; omega
          · have hz' : ¬ (T : Int) = 0 := by omega
            have CN := Lib.hid (corN_more (ps := ps) (k := 0) (m := m) HPQ.out (by rw [HRS.out, HT.out]; exact hz))
            rcases NE with h | ⟨h, h2⟩
            all_goals
              go_upto_region 16 with fail
              clear h hz hz'
              try clear h2
              go_wp2_with (at_builtin; refine wpList_append_pl rfl _ _ rfl T HT.out rfl V2.heap.size 0 1 1 rfl [q] rfl (by decide) T1.out (prow_one q _) HA8.out.own S8.out ?_)
              intro g2 cap2 w9 ho hg hat
              have H9 := Lib.hid (HA8.out.grow ho hg)
              clear ho hg hat a0 a1 b0 b1
              go_wp2
              go_roundw
              case rel => exact ⟨m + 1, by omega, by go_num, by rw [CN.out, EB.out, HRS.out]; exact H9.out⟩
              case measure => simp [intOf]; omega
      · obtain rfl : m = M := by omega
        have o3 : ¬ (m : Int) < m := by omega
        have ST := H5.out.own.sl (by have := corN_length ps 0 m; omega)
        rw [← EX.out] at ST
        have XT := Lib.hid ST
        obtain ⟨at_, ct, hv⟩ := H5.out.own.len
        obtain ⟨T, hT⟩ : ∃ k, (corN ps 0 m).length = k := ⟨_, rfl⟩
        rw [hT] at hv
        subst hv
        clear ST hT
        go_wp2_with fail
        refine (SD.out _).mono ?_
        rintro e w5 ⟨rfl, hq5⟩
        have H6 := Lib.hid (H5.out.later hq5)
        have PT := Lib.hid (r8_points H6.out.sx (XT.out.below hq5 (Nat.le_refl _)))
        rw [decide_eq_true rfl] at PT
        have x0 := H6.out.out.cell 0 _ rfl
        have x1 := H6.out.out.cell 1 _ rfl
        clear hq5 c0 c1 H5 XT
        go_wp2_with fail
        refine PT.out.mono ?_
        rintro e w6 ⟨rfl, hq6⟩
        have H7 := Lib.hid (H6.out.later hq6)
        have AL := Lib.hid (a_length false H7.out.sx)
        rw [LX.out] at AL
        have x0 := H7.out.out.cell 0 _ rfl
        have x1 := H7.out.out.cell 1 _ rfl
        clear hq6 H6 PT
        go_wp2_with fail
        refine AL.out.mono ?_
        rintro e w7 ⟨rfl, hq7⟩
        have H8 := Lib.hid (H7.out.later hq7)
        clear hq7 x0 x1 H7
        go_wp2_with fail
        refine (known9 _).mono ?_
        rintro e w8 ⟨rfl, hq8⟩
        have H9 := Lib.hid (H8.out.later hq8)
        clear hq8 H8
        go_wp2
        go_ret
        exact ⟨rfl, by rw [HB.out]; exact H9.out.below⟩

end Go.Proofs.Ytddcjdhlmlhgdaa
