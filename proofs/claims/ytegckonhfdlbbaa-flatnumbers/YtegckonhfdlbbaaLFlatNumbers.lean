/- FlatNumbers of the statements: whatever the numbers are, the call returns true and each argument reads as it did; no condition. -/
import Derived.Test.YtegckonhfdlbbaaFY8
import Derived.Test.YtegckonhfdlbbaaQP
import Derived.Deep.AppendLies
import Derived.Test.YtegckonhfdlbbaaRB8
import Derived.Test.YtegckonhfdlbbaaF4
import Derived.Test.YtegckonhfdlbbaaVar
import Derived.Test.YtegckonhfdlbbaaTP
import Derived.Test.YtegckonhfdlbbaaKN7
import Derived.Test.YtegckonhfdlbbaaTK5
import Derived.Test.YtegckonhfdlbbaaApp
import Derived.Test.YtegckonhfdlbbaaRows
import Derived.WalkKit
import Derived.ProofKit
import Derived.OpenShut
namespace Go.Proofs.Ytegckonhfdlbbaa
open Go Go.RowKit
open M

theorem ones_yls {ys : List Po} (h : ∀ i, i < ys.length → ∃ ao n cap, (po ys i).v = .slice ao n cap) : ∀ u ∈ yls ys, u.oneCell' = true := by
  induction ys with
  | nil => intro u hu; cases hu
  | cons y ys ih =>
    intro u hu
    rw [yls_cons] at hu
    rcases List.mem_append.1 hu with hu | hu
    · simp [yl] at hu
      obtain ⟨ao, n, cap, e⟩ := h 0 (by simp)
      rw [po_zero] at e
      rcases hu with rfl | rfl
      · rfl
      · rw [e]; rfl
    · exact ih (fun i hi => by have := h (i + 1) (by simpa using hi); rwa [po_cons] at this) u hu
/-- A list of polys of the call's own that grows. -/
structure Ygrow (w1 : World) (base : Nat) (f : Nat → Bool × List Pt) (n : Nat) (zs : List Po) (v : Value) (wr : World) : Prop where
  len : zs.length = n
  own : wr.ownsRow base 43 2 v n (yls zs)
  told : ∀ j, j < n → bareY (po zs j) = f j ∧ Psl wr (po zs j).v (po zs j).ps ∧ (∀ k, v.ownBlock = some k → (po zs j).v.ownBlock ≠ some k) ∧ (∃ ao n cap, (po zs j).v = .slice ao n cap) ∧ (∀ k, (po zs j).v.ownBlock = some k → k < wr.heap.size)
  below : Below w1.heap.size w1 wr
  lo : w1.heap.size ≤ base
theorem Ygrow.later {w1 wr w' : World} {base n : Nat} {f : Nat → Bool × List Pt} {zs : List Po} {v : Value} (h : Ygrow w1 base f n zs v wr) (hb : Below wr.heap.size wr w') : Ygrow w1 base f n zs v w' :=
  ⟨h.len, World.ownsRow.kept h.own (grownBy_below hb (Nat.le_refl _)) (by by_cases e : v.ownBlock = none; exact Or.inl e; exact Or.inr e), fun j hj => ⟨(h.told j hj).1, (h.told j hj).2.1.below hb (Nat.le_refl _), (h.told j hj).2.2.1, (h.told j hj).2.2.2.1, fun k hk => Nat.lt_of_lt_of_le ((h.told j hj).2.2.2.2 k hk) hb.size⟩, h.below.trans (hb.mono h.below.size), h.lo⟩
theorem Ygrow.sl {w1 wr : World} {base n : Nat} {f : Nat → Bool × List Pt} {zs : List Po} {v : Value} (h : Ygrow w1 base f n zs v wr) (hf : n ≤ 100) : Ysl wr v zs := by
  have hl := h.len
  rcases h.own.2 with ⟨rfl, hn⟩ | ⟨g, cap, cur, rfl, _, hg, _, _, _, ht⟩
  · exact ⟨none, 0, by rw [hl, hn], by omega, fun h0 => by omega⟩
  · refine ⟨_, cap, by rw [hl], by omega, fun _ => ⟨g, 0, rfl, yrow_of (by omega) (fun i hi => (h.told i (by omega)).2.1) fun j u hu => ?_⟩⟩
    rw [Nat.zero_add, cell_of_row wr g j cur _ _ hg]
    rw [← ht, List.getElem?_take] at hu
    split at hu
    · simpa using hu
    · cases hu
theorem Ygrow.shape {w1 wr : World} {base n : Nat} {f : Nat → Bool × List Pt} {zs : List Po} {v : Value} (h : Ygrow w1 base f n zs v wr) : ∃ ao cap, v = .slice ao n cap := by
  rcases h.own.2 with ⟨rfl, hn⟩ | ⟨g, cap, cur, rfl, _⟩
  · exact ⟨none, 0, by rw [hn]⟩
  · exact ⟨_, cap, rfl⟩
/-- One poly more: it lies in a block H of its own. -/
theorem wp_append_y {W w1 : World} {base n : Nat} {f : Nat → Bool × List Pt} {zs : List Po} {l : Value} {op : Oper} {a : Act} {K : Act → World → Prop} {Q : Exit → Act → World → Prop} (s x : Operand)
    (hop : op.op = .call { callee := .builtin .append, args := #[s, x], argTypes := #[47, 47] }) (hs : a.eval s = l) (H : Nat) (hx : a.eval x = .slice (some ⟨H, 0, none⟩) 1 1)
    (y : Po) (hn : Has W H (yl y).toArray 43) (hT : Ygrow w1 base f n zs l W) (hf : n ≤ 90) (hfy : bareY y = f n) (hy : Psl W y.v y.ps) (hyl : ∀ k, l.ownBlock = some k → y.v.ownBlock ≠ some k) (hyc : ∀ k, y.v.ownBlock = some k → k < W.heap.size) (hys : ∃ ao n cap, y.v = .slice ao n cap) (hb : base ≤ W.heap.size)
    (h : ∀ g' cap' w', Ygrow w1 base f (n + 1) (zs ++ [y]) (.slice (some ⟨g', 0, none⟩) (n + 1) cap') w' → K (a.put op.dst (.slice (some ⟨g', 0, none⟩) (n + 1) cap')) w') : op.wp Try.prog a W K Q := by
  obtain ⟨i0, hi, hz0, hz1, hz2⟩ := info_parts Try.infoPoly
  have h1 : ∀ u ∈ yl y, u.oneCell' = true := fun u hu => by
    simp [yl] at hu
    obtain ⟨ao, n, cap, e⟩ := hys
    rcases hu with rfl | rfl
    · rfl
    · rw [e]; rfl
  refine wp_append_lies W s x 47 hop base 43 i0 _ 2 32 Try.underlying47 hi hz0 hz1 hz2 rfl (by decide) l n (yls zs) hs hT.own ⟨H, 0, none⟩ 1 1 (yl y) hx rfl ?_ h1 (by decide) (by unfold maxLen; omega) (by omega) hb _ rfl ?_
  · intro j u hu
    rw [Addr.add_lit, Nat.zero_add]
    exact hn.cell j u (by simpa using hu)
  intro g' cap' w' hown' hg hat hlt
  have hgl : ∀ k, l.ownBlock = some k → k < W.heap.size ∧ base ≤ k := fun k hk => by
    have := World.ownsRow.lt hT.own k hk
    exact ⟨this.2, this.1⟩
  refine h g' cap' w' ⟨by simp [hT.len], ?_, fun j hj => ?_, ?_, hT.lo⟩
  · have e : yls (zs ++ [y]) = yls zs ++ yl y := by rw [yls_append]; simp [yls]
    rw [e]
    exact hown'
  · by_cases e : j = n
    · subst e
      have el : po (zs ++ [y]) j = y := by have := po_last zs y; rw [hT.len] at this; exact this
      rw [el]
      refine ⟨hfy, hy.grown hg (fun k hk e => hyl k hk e), fun k hk e2 => ?_, hys, fun k hk => Nat.lt_of_lt_of_le (hyc k hk) hg.size⟩
      have hk' : some g' = some k := hk
      simp at hk'
      subst hk'
      rcases hat with e3 | e3
      · exact hyl g' e3 e2
      · have := hyc g' e2; omega
    · rw [po_left (by rw [hT.len]; omega)]
      obtain ⟨a1, a2, a3, a4, a5⟩ := hT.told j (by omega)
      refine ⟨a1, a2.grown hg (fun k hk e => a3 k hk e), fun k hk e2 => ?_, a4, fun k hk => Nat.lt_of_lt_of_le (a5 k hk) hg.size⟩
      have hk' : some g' = some k := hk
      simp at hk'
      subst hk'
      rcases hat with e3 | e3
      · exact a3 g' e3 e2
      · have := a5 g' e2; omega
  · exact hT.below.grown hg hT.below.size (fun k hk => by have := (hgl k hk).2; have := hT.lo; omega)

theorem wpList_append_y {W w1 : World} {base n : Nat} {f : Nat → Bool × List Pt} {zs : List Po} {l : Value} {ops : Array Oper} {rest : List Oper} {op : Oper} {a : Act} {Q : Exit → Act → World → Prop} (hgd : op.guard = none) (s x : Operand)
    (hop : op.op = .call { callee := .builtin .append, args := #[s, x], argTypes := #[47, 47] }) (hs : a.eval s = l) (H : Nat) (hx : a.eval x = .slice (some ⟨H, 0, none⟩) 1 1)
    (y : Po) (hn : Has W H (yl y).toArray 43) (hT : Ygrow w1 base f n zs l W) (hf : n ≤ 90) (hfy : bareY y = f n) (hy : Psl W y.v y.ps) (hyl : ∀ k, l.ownBlock = some k → y.v.ownBlock ≠ some k) (hyc : ∀ k, y.v.ownBlock = some k → k < W.heap.size) (hys : ∃ ao n cap, y.v = .slice ao n cap) (hb : base ≤ W.heap.size)
    (h : ∀ g' cap' w', Ygrow w1 base f (n + 1) (zs ++ [y]) (.slice (some ⟨g', 0, none⟩) (n + 1) cap') w' → wpList Try.prog ops Q rest (a.put op.dst (.slice (some ⟨g', 0, none⟩) (n + 1) cap')) w') : wpList Try.prog ops Q (op :: rest) a W :=
  wpList_plain hgd fun _ hK => wp_append_y s x hop hs H hx y hn hT hf hfy hy hyl hyc hys hb fun g' cap' w' h1 => hK _ _ (h g' cap' w' h1)
/-- The value v is a list of places of the call's own. -/
def PtsV (base : Nat) (ps : List Pt) (v : Value) (w : World) : Prop := Psl w v ps ∧ (∀ k, v.ownBlock = some k → base ≤ k ∧ k < w.heap.size) ∧ ∃ ao n cap, v = .slice ao n cap
theorem PtsV.stay {base : Nat} {ps : List Pt} {v : Value} {w w' : World} (h : PtsV base ps v w) (hb : Below w.heap.size w w') : PtsV base ps v w' :=
  ⟨h.1.below hb (Nat.le_refl _), fun k hk => ⟨(h.2.1 k hk).1, Nat.lt_of_lt_of_le (h.2.1 k hk).2 hb.size⟩, h.2.2⟩

set_option maxRecDepth 100000 in
set_option maxHeartbeats 2000000 in
theorem r8_lines (ma mb mc md me mf : Int) {v : Value} {ys : List Po} {w : World} (h : Ysl w v ys) (h50 : ys.length ≤ 50) :
    Calls Try.prog 19 #[.agg (mCells ma mb mc md me mf), v] w (GivesY w ys.length (fun j => ((po ys j).cl, mapL ma mb mc md me mf (po ys j).ps))) := by
  obtain ⟨B, hB⟩ : ∃ B, w.heap.size = B := ⟨_, rfl⟩
  obtain ⟨w1, hW⟩ : ∃ W, w.alloc (.cells (mCells ma mb mc md me mf) 32) = W := ⟨_, rfl⟩
  have ha : Has w1 B (mCells ma mb mc md me mf) 32 := by rw [← hW]; exact has_new hB
  have hbl : Below w.heap.size w w1 := by rw [← hW]; exact (Below.refl _ _).alloc (Nat.le_refl _) _
  have hsz : w1.heap.size = B + 1 := by rw [← hW]; simp [hB]
  have hs1 := h.below hbl
  obtain ⟨ao, cap, rfl, hf, _⟩ := h
  obtain ⟨N, hN⟩ : ∃ N, ys.length = N := ⟨_, rfl⟩
  rw [hN] at hf hs1 h50 ⊢
  obtain ⟨f, hff⟩ : ∃ f : Nat → Bool × List Pt, (fun j => ((po ys j).cl, mapL ma mb mc md me mf (po ys j).ps)) = f := ⟨_, rfl⟩
  rw [hff]
  have F0 : Ygrow w1 (B + 1) f 0 [] (.slice none 0 0) w1 := ⟨rfl, World.ownsRow_nil _ _ _ _, fun j hj => by omega, Below.refl _ _, by omega⟩
  have HN := Lib.hid hN
  have HB := Lib.hid hB
  have HW := Lib.hid hW
  have HA := Lib.hid ha
  have HBL := Lib.hid hbl
  have HSZ := Lib.hid hsz
  have HS1 := Lib.hid hs1
  have HF0 := Lib.hid F0
  have HFF := Lib.hid hff
  clear hW ha hbl hN hsz hs1 F0 hff
  go_enter Try.func19, Try.ntmps19
  go_wp2
  rw [HW.out]
  clear hB
  go_loopw [5, 6] (fun l i wr => ∃ (n : Nat) (zs : List Po), n ≤ N ∧ i = .int .i64 n ∧ Ygrow w1 (B + 1) f n zs l wr) (fun _ i _ => N - (intOf i).toNat)
  case atStart => exact ⟨0, _, by omega, rfl, HF0.out⟩
  case round =>
    clear HF0 HW
    obtain ⟨n, zs, hn, rfl, hfl⟩ := hrel
    have HFL := Lib.hid hfl
    have hb := hfl.below
    obtain ⟨aol, capl, rfl⟩ := hfl.shape
    by_cases hlt : n < N
    · obtain ⟨g, o, e1, r0, l0⟩ := HS1.out.row (by omega)
      subst e1
      have r := r0.below hb (by omega)
      have ka := HA.out.below hb HA.out.lt
      have hf1 : f n = ((po ys n).cl, mapL ma mb mc md me mf (po ys n).ps) := by rw [← HFF.out]
      have hsl := r.sl n (by omega)
      obtain ⟨y, hy⟩ : ∃ y, po ys n = y := ⟨_, rfl⟩
      have c0 := r.c0 n (by omega)
      have c1 := r.c1 n (by omega)
      rw [hy] at c0 c1 hsl hf1
      obtain ⟨c, vy, ps⟩ := y
      simp only at c0 c1 hsl hf1
      have hlen : ps.length ≤ 1000 := hsl.few
      have YC : Hid (∀ (R : World → Prop) (z : LaterR wr R), z.to.cell? ⟨g, o + n * 2, none⟩ = some (.bool c) ∧ z.to.cell? ⟨g, o + n * 2 + 1, none⟩ = some vy) := Lib.hid (fun R z => ⟨(z.below.cell (p := ⟨g, _, _⟩) (World.block_lt_of_cell? wr _ c0)).trans c0, (z.below.cell (p := ⟨g, _, _⟩) (World.block_lt_of_cell? wr _ c1)).trans c1⟩)
      have KA := Lib.hid ka
      have SL := Lib.hid hsl
      have F1 := Lib.hid hf1
      have HLE := Lib.hid hlen
      obtain ⟨aoy, ny, capy, evy⟩ : ∃ ao n cap, vy = .slice ao n cap := by obtain ⟨ao, cap, hv, _⟩ := hsl; exact ⟨_, _, _, hv⟩
      subst evy
      have o3 : (n : Int) < N := by omega
      have o4 : n < N := hlt
      clear r r0 l0 ka hy hb hfl hsl hf1 c0 c1 hlen
      go_upto_region 5 with fail
      refine wp_region_gen 13 [12] [(0, .slice aol n capl)] [2, 0, 0, 0, 0, 0, 0, 0, 0, 0, 0, 0, 1] (by kernel_rfl) (by kernel_rfl) (fun c a d v w h => by cases d <;> exact h) ⟨⟨_, rfl, Or.inl ⟨rfl, fun w => by simp [go_sem]⟩⟩, trivial⟩ (fun G w' => ∀ v, G 12 = some v → PtsV wr.heap.size (mapL ma mb mc md me mf ps) v w') (fun G w w' h hb v hv => (h v hv).stay hb) (fun v hv => by cases hv) ?_
      apply Exists.intro
      refine ⟨fun R hR hN => ?_, ?_, ?_⟩
      · have m0 := fun z => LaterR.read (R := R) KA.out 0 _ rfl z
        have m1 := fun z => LaterR.read (R := R) KA.out 1 _ rfl z
        have m2 := fun z => LaterR.read (R := R) KA.out 2 _ rfl z
        have m3 := fun z => LaterR.read (R := R) KA.out 3 _ rfl z
        have m4 := fun z => LaterR.read (R := R) KA.out 4 _ rfl z
        have m5 := fun z => LaterR.read (R := R) KA.out 5 _ rfl z
        have y0 := fun z => (YC.out R z).1
        have y1 := fun z => (YC.out R z).2
        simp only [quietL, takeA, dstAt, List.getElem?_cons_zero, Option.bind_some]
        simp only [Act.put, List.setIfInBounds_toArray, List.set_cons_succ, List.set_cons_zero]
        repeat (go_big_quiet_step (fail))
        exact wpQuiet_nil rfl
      · intro i oo hi ho
        obtain rfl : i = 12 := by simpa using hi
        cases ho
        intro G w' hG hGn hdep hb hR
        refine ⟨rfl, gives_none (by kernel_rfl) hGn ?_⟩
        unfold gives
        simp [go_sem]
        refine (r8_map ma mb mc md me mf (SL.out.below hb (Nat.le_refl _))).mono ?_
        rintro r w'' ⟨l, rfl, hol, hbb⟩
        refine ⟨_, rfl, hb.trans (hbb.mono hb.size), fun v hv => ?_⟩
        rw [updV_eq] at hv
        cases hv
        obtain ⟨ax, cx, ex⟩ := hol.len
        exact ⟨hol.sl (by rw [mapL_len]; exact HLE.out), fun k hk => ⟨Nat.le_trans hb.size (hol.base k hk).1, (hol.base k hk).2⟩, _, _, _, ex⟩
      · intro G w' hb hR hG hN
        obtain ⟨v12, e12⟩ := hG 12 (by simp)
        obtain ⟨hp, hk, ⟨al, nl, cl, rfl⟩⟩ := hR v12 e12
        have nn : ∀ j, j < 12 → G j = none := fun j hj => hN j (by simp; omega)
        simp only [putV, dstAt, e12, nn 0 (by decide), nn 1 (by decide), nn 2 (by decide), nn 3 (by decide), nn 4 (by decide), nn 5 (by decide), nn 6 (by decide), nn 7 (by decide), nn 8 (by decide), nn 9 (by decide), nn 10 (by decide), nn 11 (by decide), List.drop_succ_cons, List.drop_zero, List.getElem?_cons_succ, List.getElem?_cons_zero, Option.bind_some]
        have FL := HFL.out.later hb
        have bA : Below w'.heap.size w' (w'.alloc (.cells #[.bool c, .slice al nl cl] 43)) := (Below.refl _ _).alloc (Nat.le_refl _) _
        have FA := Lib.hid (FL.later bA)
        have PA := Lib.hid (hp.alloc (.cells #[.bool c, .slice al nl cl] 43))
        have YL : Hid (∀ k, Value.ownBlock (.slice aol n capl) = some k → Value.ownBlock (.slice al nl cl) ≠ some k) := Lib.hid (fun k hk1 hk2 => by have := (World.ownsRow.lt HFL.out.own k hk1).2; have := (hk k hk2).1; omega)
        have YK : Hid (∀ k, Value.ownBlock (.slice al nl cl) = some k → k < (w'.alloc (.cells #[.bool c, .slice al nl cl] 43)).heap.size) := Lib.hid (fun k hk1 => by have := (hk k hk1).2; simp; omega)
        have SB : Hid (B + 1 ≤ (w'.alloc (.cells #[.bool c, .slice al nl cl] 43)).heap.size) := Lib.hid (by have := FL.below.size; have := HSZ.out; simp; omega)
        have N90 : Hid (n ≤ 90) := Lib.hid (by omega)
        clear hb hR hG hN nn e12 hp hk FL bA
        go_wp2_with (at_builtin; refine wpList_append_y rfl _ _ rfl rfl w'.heap.size rfl ⟨c, .slice al nl cl, mapL ma mb mc md me mf ps⟩ (has_new rfl) FA.out N90.out F1.out.symm PA.out YL.out YK.out ⟨_, _, _, rfl⟩ SB.out ?_)
        intro g' cap' w4 hY
        have S := Lib.hid hY
        clear hY
        go_wp2
        go_roundw
        case rel => exact ⟨n + 1, _, by omega, by go_num, S.out⟩
        case measure => simp [intOf]; omega
    · obtain rfl : n = N := by omega
      have R : Hid (GivesY w n f (.returned (.slice aol n capl)) wr) := Lib.hid ⟨_, zs, rfl, hfl.sl hf, hfl.len, fun j hj => (hfl.told j hj).1, HBL.out.trans (hb.mono (by have := HSZ.out; have := HB.out; omega))⟩
      have o3 : ¬ (n : Int) < n := by omega
      clear hfl hb
      go_wp2
      go_ret
      exact R.out

set_option maxRecDepth 100000 in
set_option maxHeartbeats 2000000 in
theorem r8_polys {v u : Value} {ys zs : List Po} {w : World} (h : Ysl w v ys) (h2 : Ysl w u zs) (hl : ys.length = zs.length) (he : ∀ j, j < ys.length → bareY (po ys j) = bareY (po zs j)) :
    Calls Try.prog 17 #[v, u] w fun e w' => e = .returned (.bool true) ∧ Below w.heap.size w w' := by
  have hs := h
  have hs2 := h2
  obtain ⟨ao, cap, rfl, hf, _⟩ := h
  obtain ⟨ao2, cap2, rfl, hf2, _⟩ := h2
  obtain ⟨N, hN⟩ : ∃ N, ys.length = N := ⟨_, rfl⟩
  rw [hN] at hl he hf hs
  rw [← hl] at hs2 hf2 ⊢
  rw [hN]
  have HS := Lib.hid hs
  have HS2 := Lib.hid hs2
  have HE := Lib.hid he
  have HN := Lib.hid hN
  have HL := Lib.hid hl
  clear hs hs2 he hN hl hf2
  go_enter Try.func17, Try.ntmps17
  go_wp2
  go_loopw [5] (fun i wr => ∃ n : Nat, n ≤ N ∧ i = .int .i64 n ∧ Below w.heap.size w wr) (fun i _ => N - (intOf i).toNat)
  case atStart => exact ⟨0, by omega, rfl, Below.refl _ _⟩
  case round =>
    obtain ⟨n, hn, rfl, hb⟩ := hrel
    by_cases hlt : n < N
    · obtain ⟨g, o, e1, r, l1⟩ := (HS.out.below hb).row (by omega)
      obtain ⟨g2, o2, e2, r2, l2⟩ := (HS2.out.below hb).row (by omega)
      subst e1 e2
      have b0 := HE.out n hlt
      have sa := r.sl n (by omega)
      have sb := r2.sl n (by omega)
      have c0 := r.c0 n (by omega)
      have c1 := r.c1 n (by omega)
      have d0 := r2.c0 n (by omega)
      have d1 := r2.c1 n (by omega)
      obtain ⟨y, hy⟩ : ∃ y, po ys n = y := ⟨_, rfl⟩
      obtain ⟨z, hz⟩ : ∃ y, po zs n = y := ⟨_, rfl⟩
      rw [hy] at b0 sa c0 c1
      rw [hz] at b0 sb d0 d1
      obtain ⟨c, vy, ps⟩ := y
      obtain ⟨c', vz, qs⟩ := z
      simp only [bareY, Prod.mk.injEq] at b0
      obtain ⟨rfl, rfl⟩ := b0
      simp only at sa sb c0 c1 d0 d1
      have y0 := fun z : Later wr => (z.below.cell (p := ⟨g, _, _⟩) (World.block_lt_of_cell? wr _ c0)).trans c0
      have y1 := fun z : Later wr => (z.below.cell (p := ⟨g, _, _⟩) (World.block_lt_of_cell? wr _ c1)).trans c1
      have z0 := fun z : Later wr => (z.below.cell (p := ⟨g2, _, _⟩) (World.block_lt_of_cell? wr _ d0)).trans d0
      have z1 := fun z : Later wr => (z.below.cell (p := ⟨g2, _, _⟩) (World.block_lt_of_cell? wr _ d1)).trans d1
      have PT : Hid (∀ z : Later wr, Calls Try.prog 10 #[vy, vz] z.to fun e w' => e = .returned (.bool true) ∧ Below z.to.heap.size z.to w') := Lib.hid (fun z => by have := r8_points (sa.later z) (sb.later z); rw [decide_eq_true rfl] at this; exact this)
      obtain ⟨aoy, ny, capy, evy⟩ : ∃ ao n cap, vy = .slice ao n cap := by obtain ⟨ao, cap, hv, _⟩ := sa; exact ⟨_, _, _, hv⟩
      obtain ⟨aoz, nz, capz, evz⟩ : ∃ ao n cap, vz = .slice ao n cap := by obtain ⟨ao, cap, hv, _⟩ := sb; exact ⟨_, _, _, hv⟩
      subst evy evz
      have HBB := Lib.hid hb
      have o3 : (n : Int) < N := by omega
      have o4 : n < N := hlt
      clear r r2 l1 l2 hy hz hb sa sb c0 c1 d0 d1
      go_upto_region 6 with fail
      refine wp_region_class (C := fun w' => ∃ z : Later wr, w' = z.to) (by kernel_rfl) (by kernel_rfl) ⟨⟨_, below_drew (Below.refl _ _)⟩, rfl⟩ ?_
      repeat (go_big_quiet_step (first | (go_at_call 10; exact Later.calls (PT.out _))))
      refine wpQuiet_nil ?_
      rintro _ ⟨z, rfl⟩
      have BZ := Lib.hid (HBB.out.trans (z.below.mono HBB.out.size))
      clear y0 y1 z0 z1
      go_wp2
      go_roundw
      case rel => exact ⟨n + 1, by omega, by go_num, BZ.out⟩
      case measure => simp [intOf]; omega
    · obtain rfl : n = N := by omega
      have o3 : ¬ (n : Int) < n := by omega
      have HBB := Lib.hid hb
      clear hb
      go_wp2
      go_ret
      exact ⟨rfl, HBB.out⟩

end Go.Proofs.Ytegckonhfdlbbaa

namespace Go.Proofs.Ytegckonhfdlbbaa
open Go Go.RowKit
open M

theorem r8_Bend {a b c d : Pt} (w : World) (ha : Rg a) (hb : Rg b) (hc : Rg c) (hd : Rg d) :
    Calls Try.prog 12 #[.agg (pCells a), .agg (pCells b), .agg (pCells c), .agg (pCells d)] w (Lsn w 8 (bendL 3 a b c d)) := by
  obtain ⟨W, hW⟩ : ∃ W, (((w.alloc (.cells (pCells a) 35)).alloc (.cells (pCells b) 35)).alloc (.cells (pCells c) 35)).alloc (.cells (pCells d) 35) = W := ⟨_, rfl⟩
  have bW : Below w.heap.size w W := by rw [← hW]; exact ((((Below.refl _ _).alloc (by omega) _).alloc (by simp) _).alloc (by simp; omega) _).alloc (by simp; omega) _
  have C := r8_bend 3 a b c d W (by omega) ha hb hc hd
  have CH := Lib.hid C
  have BW := Lib.hid bW
  have HW := Lib.hid hW
  clear C bW hW
  go_enter Try.func12, Try.ntmps12
  go_wp2_with fail
  rw [HW.out]
  refine CH.out.mono ?_
  rintro e w1 ⟨g, cap, rfl, hl, ho, hb⟩
  have RR : Lsn w 8 (bendL 3 a b c d) (.returned (.slice (some ⟨g, 0, none⟩) 8 cap)) w1 := ⟨g, cap, rfl, hl, ho.lower BW.out.size, BW.out.trans (hb.mono BW.out.size)⟩
  have RRH := Lib.hid RR
  clear RR hl ho hb
  go_wp2
  go_ret
  exact RRH.out

/-- A poly that grows: in block go, its list in other blocks behind the result's, r; the path's own block is q. -/
structure Grp (w1 : World) (q r go : Nat) (c : Bool) (vp : Value) (rs : List Pt) (l : Value) (wr : World) : Prop where
  own : Pown wr (r + 1) l rs
  away : l.ownBlock ≠ some go
  out : Has wr go #[.bool c, l] 43
  res : Has wr r #[.bool false, .slice none 0 0] 43
  src : Has wr q #[.bool c, vp] 29
  below : Below w1.heap.size w1 wr
  lq : w1.heap.size ≤ q
  lr : q < r
  lo : r < go
section
variable {w1 W w' : World} {q r go : Nat} {c : Bool} {rs qs : List Pt} {vp l l' : Value}
theorem Grp.later (h : Grp w1 q r go c vp rs l W) (hq : Below W.heap.size W w') : Grp w1 q r go c vp rs l w' :=
  ⟨h.own.below hq (Nat.le_refl _), h.away, h.out.below hq h.out.lt, h.res.below hq h.res.lt, h.src.below hq h.src.lt, h.below.trans (hq.mono h.below.size), h.lq, h.lr, h.lo⟩
theorem Grp.far (h : Grp w1 q r go c vp rs l W) : l.ownBlock ≠ some r ∧ l.ownBlock ≠ some q := ⟨fun e => by have := (h.own.base r e).1; omega, fun e => by have := (h.own.base q e).1; have := h.lr; omega⟩
/-- The list has grown, and is stored. -/
theorem Grp.put {g' n' cap' : Nat} (h : Grp w1 q r go c vp rs l W) (ho : Pown w' (r + 1) (.slice (some ⟨g', 0, none⟩) n' cap') qs) (hg : W.grownBy w' l.ownBlock) (hat : l.ownBlock = some g' ∨ W.heap.size ≤ g') : Grp w1 q r go c vp qs (.slice (some ⟨g', 0, none⟩) n' cap') (w'.setCell ⟨go, 1, none⟩ (.slice (some ⟨g', 0, none⟩) n' cap')) := by
  have hk : Has w' go #[.bool c, l] 43 := (hg.block go h.out.lt (fun e => h.away e.symm)).trans h.out
  have hr : Has w' r #[.bool false, .slice none 0 0] 43 := (hg.block r h.res.lt (fun e => h.far.1 e.symm)).trans h.res
  have hq : Has w' q #[.bool c, vp] 29 := (hg.block q h.src.lt (fun e => h.far.2 e.symm)).trans h.src
  have hne : g' ≠ go := by
    rcases hat with e | e
    · intro e2; subst e2; exact h.away e
    · have := h.out.lt; omega
  have hs := h.below.size
  have h0 := h.lq
  have h1 := h.lr
  have h2 := h.lo
  refine ⟨ho.kept (grownBy_set (World.grownBy.refl _ _) _ _) (fun k hk e => by have e' : some g' = some k := e; simp at hk e'; omega), fun e => by have e' : some g' = some go := e; simp at e'; omega, ?_, has_grown hr (grownBy_set (World.grownBy.refl _ _) _ _) (by omega), has_grown hq (grownBy_set (World.grownBy.refl _ _) _ _) (by omega), ?_, h0, h1, h2⟩
  · have := has_set hk 1 (.slice (some ⟨g', 0, none⟩) n' cap')
    simpa using this
  · exact (h.below.grown hg (by omega) (fun k e => by have := (h.own.base k e).1; omega)).setCell (show w1.heap.size ≤ go by omega) _
theorem Grp.fine (h : Grp w1 q r go c vp rs l W) (hg : W.grownBy w' l.ownBlock) : w'.cell? ⟨go, 1, none⟩ = some l ∧ w'.frozen? ⟨go, 1, none⟩ = false := by
  have hk : Has w' go #[.bool c, l] 43 := (hg.block go h.out.lt (fun e => h.away e.symm)).trans h.out
  exact ⟨hk.cell 1 _ rfl, has_fro hk 1⟩
end
abbrev zc : Array Value := #[.int .i64 0, .int .i64 0]
/-- Four variables of one statement. -/
abbrev vs4 (n m : Nat) (a b c d : Pt) : List (Nat × Nat × Array Value) := [(n, m, pCells a), (n + 1, m + 1, pCells b), (n + 2, m + 2, pCells c), (n + 3, m + 3, pCells d)]
/-- The value v is a list of the call's own, of these places. -/
def LstV (base n : Nat) (rs : List Pt) (v : Value) (w : World) : Prop := ∃ g cap, v = .slice (some ⟨g, 0, none⟩) n cap ∧ rs.length = n ∧ Pown w base v rs
theorem LstV.stay {base n : Nat} {rs : List Pt} {v : Value} {w w' : World} (h : LstV base n rs v w) (hb : Below w.heap.size w w') : LstV base n rs v w' := by
  obtain ⟨g, cap, e, hl, ho⟩ := h
  exact ⟨g, cap, e, hl, ho.below hb (Nat.le_refl _)⟩
theorem own_lit1 {W : World} {H base : Nat} (p : Pt) (hH : W.heap.size = H) (hb : base ≤ W.heap.size) : Pown (W.alloc (.cells (pCells p) 35)) base (.slice (some ⟨H, 0, none⟩) 1 1) [p] := by
  subst hH
  exact World.ownsRow_lit W (pCells p) 1 hb (by unfold maxLen; omega) rfl

set_option maxRecDepth 100000 in
set_option maxHeartbeats 2000000 in
theorem r8_flat {v : Value} {ps : List Pt} {w : World} (c : Bool) (h : Psl w v ps) : Calls Try.prog 16 #[.agg #[.bool c, v]] w (Gives w c (flatL c ps)) := by
  obtain ⟨B, hB⟩ : ∃ B, w.heap.size = B := ⟨_, rfl⟩
  obtain ⟨W, hW⟩ : ∃ W, (w.alloc (.cells #[.bool c, v] 29)).alloc (.cells #[.bool false, .slice none 0 0] 43) = W := ⟨_, rfl⟩
  have ha : Has W B #[.bool c, v] 29 := by rw [← hW]; exact (has_new hB).alloc _
  have hr : Has W (B + 1) #[.bool false, .slice none 0 0] 43 := by rw [← hW]; exact has_new (by simp [hB])
  have hbl : Below B w W := by rw [← hW]; exact ((Below.refl _ _).alloc (by omega) _).alloc (by simp; omega) _
  have hsz : W.heap.size = B + 1 + 1 := by rw [← hW]; simp [hB]
  have h' := h.below hbl (by omega)
  have hsw := h
  obtain ⟨ao, cap, rfl, hf, _⟩ := h
  obtain ⟨N, hN⟩ : ∃ N, ps.length = N := ⟨_, rfl⟩
  rw [hN] at h' ha hf hW hsw ⊢
  have HSW := Lib.hid hsw
  have HE := Lib.hid (r8_right c h')
  have HS := Lib.hid h'
  have HA := Lib.hid ha
  have HR := Lib.hid hr
  have HBL := Lib.hid hbl
  have HSZ := Lib.hid hsz
  have HW := Lib.hid hW
  have HB := Lib.hid hB
  have HN := Lib.hid hN
  clear ha hr hbl hsz hW h' hN hsw
  go_enter Try.func16, Try.ntmps16
  go_upto_region 1 with fail
  rw [HW.out]
  have a0 := HA.out.cell 0 _ rfl
  have a1 := HA.out.cell 1 _ rfl
  clear hB HW
  go_wp2_with fail
  refine HE.out.mono ?_
  rintro e w2 ⟨rfl, b2⟩
  have B2 := Lib.hid b2
  have ka := HA.out.below b2 HA.out.lt
  have kr := HR.out.below b2 HR.out.lt
  have a0 := ka.cell 0 _ rfl
  have a1 := ka.cell 1 _ rfl
  have r0 := kr.cell 0 _ rfl
  have r1 := kr.cell 1 _ rfl
  have fz := has_fro kr
  by_cases hok : okP c ps = false
  · rw [hok]
    have RR : Gives w c (flatL c ps) (.returned (.agg #[.bool c, .slice none 0 0])) ((w2.setCell ⟨B + 1, 0, none⟩ (.bool c)).setCell ⟨B + 1, 1, none⟩ (.slice none 0 0)) := by
      rw [flatL_no (Or.inr hok)]
      exact gives_put (w := w) HB.out (Pown.nil _ _) (by simp [Value.ownBlock]) (by omega) (HBL.out.trans (b2.mono (by have := HSZ.out; omega))) rfl _ _ rfl
    have RRH := Lib.hid RR
    clear RR kr ka b2 hok
    go_wp2
    refine bodyPost_ret (v := .agg #[.bool c, .slice none 0 0]) (by simp [results, Try.results16, go_sem, r0, r1]) rfl ?_
    exact RRH.out
  · have hok' : okP c ps = true := by simpa using hok
    rw [hok']
    by_cases h0 : N = 0
    · have RR : Gives w c (flatL c ps) (.returned (.agg #[.bool c, .slice none 0 0])) ((w2.setCell ⟨B + 1, 0, none⟩ (.bool c)).setCell ⟨B + 1, 1, none⟩ (.slice none 0 0)) := by
        rw [flatL_no (Or.inl (by rw [HN.out]; exact h0))]
        exact gives_put (w := w) HB.out (Pown.nil _ _) (by simp [Value.ownBlock]) (by omega) (HBL.out.trans (b2.mono (by have := HSZ.out; omega))) rfl _ _ rfl
      have RRH := Lib.hid RR
      have o1 : ((N : Int) == 0) = true := by simp; omega
      clear RR kr ka b2 hok hok'
      go_wp2
      refine bodyPost_ret (v := .agg #[.bool c, .slice none 0 0]) (by simp [results, Try.results16, go_sem, r0, r1]) rfl ?_
      exact RRH.out
    · have EF := Lib.hid (flatL_yes (c := c) (ps := ps) (by rw [HN.out]; rintro (h | h); exact h0 h; exact hok h))
      obtain ⟨q1, q2, q3, q4⟩ := okP_rg (by rw [HN.out]; exact h0) hok'
      rw [HN.out] at q1 q2 q3 q4 EF
      have RG := Lib.hid q4
      have o1 : ((N : Int) == 0) = false := eqz h0
      have bS : w2.heap.size > B + 1 := by have := b2.size; have := HSZ.out; omega
      obtain ⟨g, o, e1, r, l1⟩ := (HS.out.below b2 (Nat.le_refl _)).row (by omega)
      subst e1
      have x0 := r.c0 0 (by omega)
      have x1 := r.c1 0 (by omega)
      simp only [Nat.zero_mul, Nat.add_zero] at x0 x1
      obtain ⟨p, hp⟩ : ∃ p, pt ps 0 = p := ⟨_, rfl⟩
      rw [hp] at x0 x1
      have HP := Lib.hid hp
      have o2 : 0 < N := by omega
      have KA := Lib.hid ka
      have KR := Lib.hid kr
      clear hok hok' q4 r l1 hp b2 ka kr
      obtain ⟨px, py⟩ := p
      simp only at x0 x1
      have ka2 := fun ob => (KA.out.alloc ob).cell 0 _ rfl
      have ka3 := fun ob => (KA.out.alloc ob).cell 1 _ rfl
      have ka4 := fun ob ob' => ((KA.out.alloc ob).alloc ob').cell 0 _ rfl
      have ka5 := fun ob ob' => ((KA.out.alloc ob).alloc ob').cell 1 _ rfl
      have xl : ∀ ob, (w2.alloc ob).cell? ⟨g, o, none⟩ = some (.int .i64 px) := fun ob => (((Below.refl w2.heap.size w2).alloc (Nat.le_refl _) ob).cell (p := ⟨g, o, none⟩) (World.block_lt_of_cell? w2 _ x0)).trans x0
      have yl : ∀ ob, (w2.alloc ob).cell? ⟨g, o + 1, none⟩ = some (.int .i64 py) := fun ob => (((Below.refl w2.heap.size w2).alloc (Nat.le_refl _) ob).cell (p := ⟨g, o + 1, none⟩) (World.block_lt_of_cell? w2 _ x1)).trans x1
      have xl2 : ∀ ob ob', ((w2.alloc ob).alloc ob').cell? ⟨g, o, none⟩ = some (.int .i64 px) := fun ob ob' => (((Below.refl w2.heap.size w2).alloc (Nat.le_refl _) ob |>.alloc (by simp) ob').cell (p := ⟨g, o, none⟩) (World.block_lt_of_cell? w2 _ x0)).trans x0
      have yl2 : ∀ ob ob', ((w2.alloc ob).alloc ob').cell? ⟨g, o + 1, none⟩ = some (.int .i64 py) := fun ob ob' => (((Below.refl w2.heap.size w2).alloc (Nat.le_refl _) ob |>.alloc (by simp) ob').cell (p := ⟨g, o + 1, none⟩) (World.block_lt_of_cell? w2 _ x1)).trans x1
      have GA : Hid (Grp w B (B + 1) (w2.heap.size + 1) c (.slice (some ⟨g, o, none⟩) N cap) [⟨px, py⟩] (.slice (some ⟨w2.heap.size, 0, none⟩) 1 1) ((w2.alloc (.cells (pCells ⟨px, py⟩) 35)).alloc (.cells #[.bool c, .slice (some ⟨w2.heap.size, 0, none⟩) 1 1] 43)).drew) := Lib.hid
        ⟨((own_lit1 ⟨px, py⟩ rfl (by omega)).alloc _).drew, by simp [Value.ownBlock], (has_new (by simp)).drew, ((KR.out.alloc _).alloc _).drew, ((KA.out.alloc _).alloc _).drew, below_drew (by rw [HB.out]; exact ((HBL.out.trans (B2.out.mono (by have := HSZ.out; omega))).alloc (by omega) _).alloc (by simp; omega) _), by rw [HB.out]; omega, by omega, by omega⟩
      have GB : Hid (Grp w B (B + 1) w2.heap.size c (.slice (some ⟨g, o, none⟩) N cap) [⟨px, py⟩] (.slice (some ⟨w2.heap.size + 1, 0, none⟩) 1 1) ((w2.alloc (.cells #[.bool c, .slice (some ⟨w2.heap.size + 1, 0, none⟩) 1 1] 43)).alloc (.cells (pCells ⟨px, py⟩) 35)).drew) := Lib.hid
        ⟨(own_lit1 ⟨px, py⟩ (by simp) (by simp; omega)).drew, by simp [Value.ownBlock], ((has_new rfl).alloc _).drew, ((KR.out.alloc _).alloc _).drew, ((KA.out.alloc _).alloc _).drew, below_drew (by rw [HB.out]; exact ((HBL.out.trans (B2.out.mono (by have := HSZ.out; omega))).alloc (by omega) _).alloc (by simp; omega) _), by rw [HB.out]; omega, by omega, by omega⟩
      clear r0 r1 fz
      go_upto_region 3 with fail
      go_cut [3] (fun so wx => ∃ go gs, so = .pointer (some ⟨go, 0, none⟩) ∧ Grp w B (B + 1) go c (.slice (some ⟨g, o, none⟩) N cap) [⟨px, py⟩] (.slice (some ⟨gs, 0, none⟩) 1 1) wx)
      case first =>
        go_region
        all_goals
          go_wp2_with fail
          go_meet
          case rel => first | exact ⟨_, _, rfl, GA.out⟩ | exact ⟨_, _, rfl, GB.out⟩
      case rest =>
        obtain ⟨go, gs, rfl, hG⟩ := hcut
        have RW := Lib.hid (fun (wr : World) (hb : Below w.heap.size w wr) => (HSW.out.below hb (Nat.le_refl _)))
        have H0 := Lib.hid hG
        clear GA GB xl yl xl2 yl2 ka4 ka5 ka2 ka3 x0 x1 a0 a1 hG KA KR B2 HS HA HR HBL HSZ HE bS
        go_wp2
        go_loopw [4] (fun i wr => ∃ (k I : Nat) (lo : Value), 3 * k = I ∧ I + 1 ≤ N ∧ i = .int .i64 I ∧ Grp w B (B + 1) go c (.slice (some ⟨g, o, none⟩) N cap) (polyN ps k) lo wr) (fun i _ => 100 - (intOf i).toNat)
        case atStart => exact ⟨0, 0, _, rfl, by omega, rfl, by rw [show polyN ps 0 = [⟨px, py⟩] by rw [← HP.out]; rfl]; exact H0.out⟩
        case round =>
          obtain ⟨k, I, lo, hI, hIN, rfl, hG⟩ := hrel
          clear H0
          have GH := Lib.hid hG
          have s1 := hG.src.cell 1 _ rfl
          by_cases hlt : I + 3 < N
          · obtain ⟨g1, o1', eo, r, l1⟩ := (RW.out wr hG.below).row (by omega)
            simp at eo
            obtain ⟨rfl, rfl⟩ := eo
            obtain ⟨a, pa⟩ : ∃ p, pt ps I = p := ⟨_, rfl⟩
            obtain ⟨b, pb⟩ : ∃ p, pt ps (I + 1) = p := ⟨_, rfl⟩
            obtain ⟨cc, pc⟩ : ∃ p, pt ps (I + 2) = p := ⟨_, rfl⟩
            obtain ⟨d, pd⟩ : ∃ p, pt ps (I + 3) = p := ⟨_, rfl⟩
            have ra : Rg a := pa ▸ RG.out I (by omega)
            have rb : Rg b := pb ▸ RG.out (I + 1) (by omega)
            have rc : Rg cc := pc ▸ RG.out (I + 2) (by omega)
            have rd : Rg d := pd ▸ RG.out (I + 3) (by omega)
            have row : ∀ (R : World → Prop) (z : LaterR wr R), Prow z.to g o ps := fun R z => r.block (z.below.block g (r.lt (by omega)))
            have PX : Hid (∀ (R : World → Prop) (z : LaterR wr R), (z.to.cell? ⟨g, o + I * 2, none⟩ = some (.int .i64 a.x) ∧ z.to.cell? ⟨g, o + I * 2 + 1, none⟩ = some (.int .i64 a.y)) ∧ (z.to.cell? ⟨g, o + (I + 1) * 2, none⟩ = some (.int .i64 b.x) ∧ z.to.cell? ⟨g, o + (I + 1) * 2 + 1, none⟩ = some (.int .i64 b.y)) ∧ (z.to.cell? ⟨g, o + (I + 2) * 2, none⟩ = some (.int .i64 cc.x) ∧ z.to.cell? ⟨g, o + (I + 2) * 2 + 1, none⟩ = some (.int .i64 cc.y)) ∧ (z.to.cell? ⟨g, o + (I + 3) * 2, none⟩ = some (.int .i64 d.x) ∧ z.to.cell? ⟨g, o + (I + 3) * 2 + 1, none⟩ = some (.int .i64 d.y))) := Lib.hid (by
              intro R z
              have q := row R z
              have A0 := q.c0 I (by omega)
              have A1 := q.c1 I (by omega)
              have B0 := q.c0 (I + 1) (by omega)
              have B1 := q.c1 (I + 1) (by omega)
              have C0 := q.c0 (I + 2) (by omega)
              have C1 := q.c1 (I + 2) (by omega)
              have D0 := q.c0 (I + 3) (by omega)
              have D1 := q.c1 (I + 3) (by omega)
              rw [pa] at A0 A1
              rw [pb] at B0 B1
              rw [pc] at C0 C1
              rw [pd] at D0 D1
              exact ⟨⟨A0, A1⟩, ⟨B0, B1⟩, ⟨C0, C1⟩, ⟨D0, D1⟩⟩)
            have hst : polyN ps k ++ partL a b cc d = polyN ps (k + 1) := by
              show _ = polyN ps k ++ partL (pt ps (3 * k)) (pt ps (3 * k + 1)) (pt ps (3 * k + 2)) (pt ps (3 * k + 3))
              rw [hI, pa, pb, pc, pd]
            have EST := Lib.hid hst
            have EI := Lib.hid hI
            have PL := polyN_length ps k
            obtain ⟨ln, hln⟩ : ∃ n, (polyN ps k).length = n := ⟨_, rfl⟩
            have LN8 : Hid (ln + 8 ≤ 1000) := Lib.hid (by omega)
            obtain ⟨aol, capl, hv⟩ := hG.own.len
            rw [hln] at hv
            subst hv
            have HLN := Lib.hid hln
            have o3 : (I : Int) + 3 < N := by omega
            have o4 : (N : Int) ≤ 97 := by omega
            clear hG pa pb pc pd r row l1 hln PL hst hI
            go_upto_region 7 with fail
            refine wp_region_gen 30 [23, 24, 25, 26, 27, 28, 29] [] [0, 0, 0, 0, 0, 0, 0, 0, 0, 0, 0, 0, 0, 0, 0, 0, 0, 0, 0, 0, 0, 0, 0, 1, 1, 1, 1, 1, 1, 1] (by kernel_rfl) (by kernel_rfl) (fun c a d v w h => by cases d <;> exact h) trivial (fun G w' => Vars wr.heap.size 35 zc (vs4 23 27 a b cc d) G w') (fun G w w' h hb => h.stay hb) Vars.start ?_
            apply Exists.intro
            refine ⟨fun R hR hN => ?_, ?_, ?_⟩
            · have y0 := fun z => LaterR.read (R := R) GH.out.src 1 _ rfl z
              have A0 := fun z => (PX.out R z).1.1
              have A1 := fun z => (PX.out R z).1.2
              have B0 := fun z => (PX.out R z).2.1.1
              have B1 := fun z => (PX.out R z).2.1.2
              have C0 := fun z => (PX.out R z).2.2.1.1
              have C1 := fun z => (PX.out R z).2.2.1.2
              have D0 := fun z => (PX.out R z).2.2.2.1
              have D1 := fun z => (PX.out R z).2.2.2.2
              simp only [quietL, takeA]
              repeat (go_big_quiet_step (fail))
              exact wpQuiet_nil rfl
            · intro i oo hi ho
              have hi' : i = 23 ∨ i = 24 ∨ i = 25 ∨ i = 26 ∨ i = 27 ∨ i = 28 ∨ i = 29 := by simpa using hi
              clear hi
              rcases hi' with rfl | rfl | rfl | rfl | rfl | rfl | rfl
              · cases ho
                intro G w' hG hGn hdep hb hR
                refine ⟨rfl, gives_none (by kernel_rfl) hGn ?_⟩
                unfold gives
                simp [go_sem]
                exact ⟨hb.alloc hb.size _, hR.alloc (i := 23) (s := 27) (cs := pCells a) rfl (by simp) (by intro y hy he; simp at hy; rcases hy with rfl | rfl | rfl | rfl <;> simp at he ⊢) hG hb.size⟩
              · cases ho
                intro G w' hG hGn hdep hb hR
                refine ⟨rfl, gives_none (by kernel_rfl) hGn ?_⟩
                unfold gives
                simp [go_sem]
                exact ⟨hb.alloc hb.size _, hR.alloc (i := 24) (s := 28) (cs := pCells b) rfl (by simp) (by intro y hy he; simp at hy; rcases hy with rfl | rfl | rfl | rfl <;> simp at he ⊢) hG hb.size⟩
              · cases ho
                intro G w' hG hGn hdep hb hR
                refine ⟨rfl, gives_none (by kernel_rfl) hGn ?_⟩
                unfold gives
                simp [go_sem]
                exact ⟨hb.alloc hb.size _, hR.alloc (i := 25) (s := 29) (cs := pCells cc) rfl (by simp) (by intro y hy he; simp at hy; rcases hy with rfl | rfl | rfl | rfl <;> simp at he ⊢) hG hb.size⟩
              · cases ho
                intro G w' hG hGn hdep hb hR
                refine ⟨rfl, gives_none (by kernel_rfl) hGn ?_⟩
                unfold gives
                simp [go_sem]
                exact ⟨hb.alloc hb.size _, hR.alloc (i := 26) (s := 30) (cs := pCells d) rfl (by simp) (by intro y hy he; simp at hy; rcases hy with rfl | rfl | rfl | rfl <;> simp at he ⊢) hG hb.size⟩
              · cases ho
                intro G w' hG hGn hdep hb hR
                obtain ⟨v, hv⟩ := Option.ne_none_iff_exists'.1 (hdep 23 (by simp) (by kernel_rfl))
                obtain ⟨gx, rfl, hgx, hhx⟩ := hR.has (23, 27, pCells a) (by simp) v hv
                rw [if_pos hG] at hhx
                refine ⟨rfl, gives_one (k := 23) (by kernel_rfl) hGn (by omega) hv ?_⟩
                have cx0 := hhx.cell 0 _ rfl
                have cx1 := hhx.cell 1 _ rfl
                have fx := has_fro hhx
                unfold gives
                simp [go_sem, dstAt, Act.put, cx0, cx1, fx]
                exact ⟨(hb.setCell hgx _).setCell hgx _, hR.store (i := 23) (s := 27) (za := .int .i64 0) (zb := .int .i64 0) rfl rfl (by simp) (by intro y hy he; simp at hy; rcases hy with rfl | rfl | rfl | rfl <;> simp at he ⊢) hv hG⟩
              · cases ho
                intro G w' hG hGn hdep hb hR
                obtain ⟨v, hv⟩ := Option.ne_none_iff_exists'.1 (hdep 24 (by simp) (by kernel_rfl))
                obtain ⟨gx, rfl, hgx, hhx⟩ := hR.has (24, 28, pCells b) (by simp) v hv
                rw [if_pos hG] at hhx
                refine ⟨rfl, gives_one (k := 24) (by kernel_rfl) hGn (by omega) hv ?_⟩
                have cx0 := hhx.cell 0 _ rfl
                have cx1 := hhx.cell 1 _ rfl
                have fx := has_fro hhx
                unfold gives
                simp [go_sem, dstAt, Act.put, cx0, cx1, fx]
                exact ⟨(hb.setCell hgx _).setCell hgx _, hR.store (i := 24) (s := 28) (za := .int .i64 0) (zb := .int .i64 0) rfl rfl (by simp) (by intro y hy he; simp at hy; rcases hy with rfl | rfl | rfl | rfl <;> simp at he ⊢) hv hG⟩
              · cases ho
                intro G w' hG hGn hdep hb hR
                obtain ⟨v, hv⟩ := Option.ne_none_iff_exists'.1 (hdep 25 (by simp) (by kernel_rfl))
                obtain ⟨gx, rfl, hgx, hhx⟩ := hR.has (25, 29, pCells cc) (by simp) v hv
                rw [if_pos hG] at hhx
                refine ⟨rfl, gives_one (k := 25) (by kernel_rfl) hGn (by omega) hv ?_⟩
                have cx0 := hhx.cell 0 _ rfl
                have cx1 := hhx.cell 1 _ rfl
                have fx := has_fro hhx
                unfold gives
                simp [go_sem, dstAt, Act.put, cx0, cx1, fx]
                exact ⟨(hb.setCell hgx _).setCell hgx _, hR.store (i := 25) (s := 29) (za := .int .i64 0) (zb := .int .i64 0) rfl rfl (by simp) (by intro y hy he; simp at hy; rcases hy with rfl | rfl | rfl | rfl <;> simp at he ⊢) hv hG⟩
            · intro G w3 hb3 hR hG hN
              obtain ⟨v0, e0⟩ := hG 23 (by simp)
              obtain ⟨v1, e1⟩ := hG 24 (by simp)
              obtain ⟨v2, e2⟩ := hG 25 (by simp)
              obtain ⟨v3, e3⟩ := hG 26 (by simp)
              obtain ⟨s0, t0⟩ := hG 27 (by simp)
              obtain ⟨s1', t1⟩ := hG 28 (by simp)
              obtain ⟨s2, t2⟩ := hG 29 (by simp)
              obtain ⟨g0, rfl, l0, k0⟩ := hR.has (23, 27, pCells a) (by simp) v0 e0
              obtain ⟨g1, rfl, l1, k1⟩ := hR.has (24, 28, pCells b) (by simp) v1 e1
              obtain ⟨g2, rfl, l2, k2⟩ := hR.has (25, 29, pCells cc) (by simp) v2 e2
              obtain ⟨g3, rfl, l3, k3⟩ := hR.has (26, 30, pCells d) (by simp) v3 e3
              rw [if_neg (by simp [t0])] at k0
              rw [if_neg (by simp [t1])] at k1
              rw [if_neg (by simp [t2])] at k2
              rw [if_pos (hN 30 (by simp))] at k3
              have n03 : g0 ≠ g3 := fun e => hR.ne (23, 27, pCells a) (by simp) (26, 30, pCells d) (by simp) (by simp) _ e0 (by rw [e3, e])
              have n13 : g1 ≠ g3 := fun e => hR.ne (24, 28, pCells b) (by simp) (26, 30, pCells d) (by simp) (by simp) _ e1 (by rw [e3, e])
              have n23 : g2 ≠ g3 := fun e => hR.ne (25, 29, pCells cc) (by simp) (26, 30, pCells d) (by simp) (by simp) _ e2 (by rw [e3, e])
              have nn : ∀ j, j < 23 → G j = none := fun j hj => hN j (by simp; omega)
              simp only [putV, dstAt, e0, e1, e2, e3, t0, t1, t2, nn 0 (by decide), nn 1 (by decide), nn 2 (by decide), nn 3 (by decide), nn 4 (by decide), nn 5 (by decide), nn 6 (by decide), nn 7 (by decide), nn 8 (by decide), nn 9 (by decide), nn 10 (by decide), nn 11 (by decide), nn 12 (by decide), nn 13 (by decide), nn 14 (by decide), nn 15 (by decide), nn 16 (by decide), nn 17 (by decide), nn 18 (by decide), nn 19 (by decide), nn 20 (by decide), nn 21 (by decide), nn 22 (by decide), List.drop_succ_cons, List.drop_zero, List.getElem?_cons_succ, List.getElem?_cons_zero, Option.bind_some]
              have c30 := k3.cell 0 _ rfl
              have c31 := k3.cell 1 _ rfl
              have f3 := has_fro k3
              obtain ⟨V, hV⟩ : ∃ V, (w3.setCell ⟨g3, 0, none⟩ (.int .i64 d.x)).setCell ⟨g3, 1, none⟩ (.int .i64 d.y) = V := ⟨_, rfl⟩
              have v0 : Has V g0 (pCells a) 35 := by rw [← hV]; exact hoff2 k0 (Ne.symm n03) _ _
              have v1 : Has V g1 (pCells b) 35 := by rw [← hV]; exact hoff2 k1 (Ne.symm n13) _ _
              have v2 : Has V g2 (pCells cc) 35 := by rw [← hV]; exact hoff2 k2 (Ne.symm n23) _ _
              have v3 : Has V g3 (pCells d) 35 := by rw [← hV]; exact hset2 k3 _ _
              have bV : Below wr.heap.size w3 V := by rw [← hV]; exact below_set2 l3 _ _
              have GV := Lib.hid (GH.out.later (hb3.trans bV))
              have V0 := Lib.hid v0
              have V1 := Lib.hid v1
              have V2 := Lib.hid v2
              have V3 := Lib.hid v3
              have HV := Lib.hid hV
              clear k0 k1 k2 k3 hb3 v0 v1 v2 v3 bV hV l0 l1 l2 l3 hR hG hN nn e0 e1 e2 e3 t0 t1 t2 n03 n13 n23
              go_upto_region 8 with fail
              rw [HV.out]
              clear c30 c31 f3 HV
              have a0 := V0.out.cell 0 _ rfl
              have a1 := V0.out.cell 1 _ rfl
              have b0 := V1.out.cell 0 _ rfl
              have b1 := V1.out.cell 1 _ rfl
              have c0 := V2.out.cell 0 _ rfl
              have c1 := V2.out.cell 1 _ rfl
              have d0 := V3.out.cell 0 _ rfl
              have d1 := V3.out.cell 1 _ rfl
              have m1 := GV.out.out.cell 1 _ rfl
              have sV : Hid (B + 1 + 1 ≤ V.heap.size) := Lib.hid GV.out.res.lt
              by_cases hst : b = a ∧ cc = d
              · obtain ⟨rfl, rfl⟩ := hst
                have EP : Hid (partL b b cc cc = [cc]) := Lib.hid (by unfold partL; rw [if_pos ⟨rfl, rfl⟩])
                have OW := Lib.hid (GV.out.own.alloc (.cells (pCells cc) 35))
                have SW : Hid (B + 1 + 1 ≤ (V.alloc (.cells (pCells cc) 35)).heap.size) := Lib.hid (by have := sV.out; simp; omega)
                have NF1 : Hid (ln + 1 ≤ 1000) := Lib.hid (by have := LN8.out; omega)
                have GW := Lib.hid (GV.out.later ((Below.refl V.heap.size V).alloc (Nat.le_refl _) (.cells (pCells cc) 35)))
                go_wp2_with (at_builtin; refine wpList_append_pl rfl _ _ rfl ln HLN.out rfl V.heap.size 0 1 1 rfl [cc] rfl (by decide) NF1.out (prow_one cc _) OW.out SW.out ?_)
                intro g' cap' w4 ho hg hat
                have e0 := (GW.out.fine hg).1
                have e1 := (GW.out.fine hg).2
                rw [← EP.out, EST.out] at ho
                have G4 := Lib.hid (GW.out.put ho hg (hat.imp id (fun h => by simpa using h)))
                clear ho hg hat
                go_wp2
                go_roundw
                case rel => exact ⟨k + 1, I + 3, _, by have := EI.out; omega, by omega, by go_num, G4.out⟩
                case measure => simp [intOf]; omega
              · have EP : Hid (partL a b cc d = bendL 3 a b cc d) := Lib.hid (by unfold partL; rw [if_neg hst])
                have NE : a.x ≠ b.x ∨ (a.x = b.x ∧ a.y ≠ b.y) ∨ (a.x = b.x ∧ a.y = b.y ∧ cc.x ≠ d.x) ∨ (a.x = b.x ∧ a.y = b.y ∧ cc.x = d.x ∧ cc.y ≠ d.y) := by
                  obtain ⟨ax, ay⟩ := a
                  obtain ⟨bx, bY⟩ := b
                  obtain ⟨cx, cy⟩ := cc
                  obtain ⟨dx, dy⟩ := d
                  simp only [Pt.mk.injEq] at hst ⊢
                  omega
                have BD := Lib.hid (fun w => r8_Bend w ra rb rc rd)
                clear hst
                rcases NE with h | ⟨h, h2⟩ | ⟨h, h2, h3⟩ | ⟨h, h2, h3, h4⟩
                all_goals
                  go_upto_region 10 with fail
                  clear h
                  try clear h2
                  try clear h3
                  try clear h4
                  clear a0 a1 b0 b1 c0 c1 d0 d1 m1
                  refine wp_region_gen 7 [6] [] [0, 0, 0, 0, 0, 0, 1] (by kernel_rfl) (by kernel_rfl) (fun c a d v w h => by cases d <;> exact h) trivial (fun G w' => ∀ v, G 6 = some v → LstV V.heap.size 8 (bendL 3 a b cc d) v w') (fun G w w' h hb v hv => (h v hv).stay hb) (fun v hv => by cases hv) ?_
                  apply Exists.intro
                  refine ⟨fun R hR hN => ?_, ?_, ?_⟩
                  · have A0 := fun z => LaterR.read (R := R) V0.out 0 _ rfl z
                    have A1 := fun z => LaterR.read (R := R) V0.out 1 _ rfl z
                    have B0 := fun z => LaterR.read (R := R) V1.out 0 _ rfl z
                    have B1 := fun z => LaterR.read (R := R) V1.out 1 _ rfl z
                    have C0 := fun z => LaterR.read (R := R) V2.out 0 _ rfl z
                    have C1 := fun z => LaterR.read (R := R) V2.out 1 _ rfl z
                    have D0 := fun z => LaterR.read (R := R) V3.out 0 _ rfl z
                    have D1 := fun z => LaterR.read (R := R) V3.out 1 _ rfl z
                    have M1 := fun z => LaterR.read (R := R) GV.out.out 1 _ rfl z
                    simp only [quietL, takeA]
                    repeat (go_big_quiet_step (fail))
                    exact wpQuiet_nil rfl
                  · intro i oo hi ho
                    obtain rfl : i = 6 := by simpa using hi
                    cases ho
                    intro G w' hG hGn hdep hb hR
                    refine ⟨rfl, gives_none (by kernel_rfl) hGn ?_⟩
                    unfold gives
                    simp [go_sem]
                    refine (BD.out w').mono ?_
                    rintro r w'' ⟨gb, capb, rfl, hlb, hob, hbb⟩
                    exact ⟨_, rfl, hb.trans (hbb.mono hb.size), fun v hv => by rw [updV_eq] at hv; cases hv; exact ⟨gb, capb, rfl, hlb, hob.lower hb.size⟩⟩
                  · intro G w' hb hR hG hN
                    obtain ⟨v6, e6⟩ := hG 6 (by simp)
                    obtain ⟨g6, cap6, rfl, hl6, ho6⟩ := hR v6 e6
                    have n0 := hN 0 (by simp)
                    have n1 := hN 1 (by simp)
                    have n2 := hN 2 (by simp)
                    have n3 := hN 3 (by simp)
                    have n4 := hN 4 (by simp)
                    have n5 := hN 5 (by simp)
                    simp only [putV, dstAt, e6, n0, n1, n2, n3, n4, n5, List.drop_succ_cons, List.drop_zero, List.getElem?_cons_succ, List.getElem?_cons_zero, Option.bind_some]
                    have GW := Lib.hid (GV.out.later hb)
                    have R6 := Lib.hid (ho6.row (by omega) (by omega))
                    have L6 := Lib.hid hl6
                    have SW : Hid (B + 1 + 1 ≤ w'.heap.size) := Lib.hid GW.out.res.lt
                    clear hb hR hG hN n0 n1 n2 n3 n4 n5 hl6 ho6 e6
                    go_wp2_with (at_builtin; refine wpList_append_pl rfl _ _ rfl ln HLN.out rfl g6 0 8 cap6 rfl (bendL 3 a b cc d) L6.out (by decide) LN8.out R6.out GW.out.own SW.out ?_)
                    intro g' cap' w4 ho hg hat
                    have e0 := (GW.out.fine hg).1
                    have e1 := (GW.out.fine hg).2
                    rw [← EP.out, EST.out] at ho
                    have G4 := Lib.hid (GW.out.put ho hg hat)
                    clear ho hg hat
                    go_wp2
                    go_roundw
                    case rel => exact ⟨k + 1, I + 3, _, by have := EI.out; omega, by omega, by go_num, G4.out⟩
                    case measure => simp [intOf]; omega
          · have ek : k = (N - 1) / 3 := by omega
            have c0 := hG.out.cell 0 _ rfl
            have c1 := hG.out.cell 1 _ rfl
            have v0 := hG.res.cell 0 _ rfl
            have v1 := hG.res.cell 1 _ rfl
            have fz := has_fro hG.res
            obtain ⟨aol, capl, hv⟩ := hG.own.len
            obtain ⟨ln, hln⟩ : ∃ n, (polyN ps k).length = n := ⟨_, rfl⟩
            rw [hln] at hv
            subst hv
            have RR : Gives w c (flatL c ps) (.returned (.agg #[.bool c, .slice aol ln capl])) ((wr.setCell ⟨B + 1, 0, none⟩ (.bool c)).setCell ⟨B + 1, 1, none⟩ (.slice aol ln capl)) := by
              rw [EF.out, ← ek]
              exact gives_put (w := w) HB.out (hG.own.lower (by omega)) hG.far.1 (by omega) (by have := hG.below; rw [HB.out] at this; exact this) rfl _ _ rfl
            have RRH := Lib.hid RR
            have o3 : ¬ (I : Int) + 3 < N := by omega
            have o4 : (I : Int) ≤ 1000 := by omega
            clear RR hG GH hln hI
            go_wp2
            refine bodyPost_ret (v := .agg #[.bool c, .slice aol ln capl]) (by simp [results, Try.results16, go_sem, v0, v1]) rfl ?_
            exact RRH.out

end Go.Proofs.Ytegckonhfdlbbaa

namespace Go.Proofs.Ytegckonhfdlbbaa
open Go Go.RowKit
open M

/-- The value v is a poly whose list is of the call's own. -/
def PolyO (base : Nat) (c : Bool) (ps : List Pt) (v : Value) (w : World) : Prop := ∃ l, v = .agg #[.bool c, l] ∧ Pown w base l ps
theorem PolyO.stay {base : Nat} {c : Bool} {ps : List Pt} {v : Value} {w w' : World} (h : PolyO base c ps v w) (hb : Below w.heap.size w w') : PolyO base c ps v w' := by
  obtain ⟨l, e, hp⟩ := h
  exact ⟨l, e, hp.below hb (Nat.le_refl _)⟩
theorem Pown.ne_has {w : World} {B g : Nat} {l : Value} {ps : List Pt} {cs : Array Value} (h : Pown w B l ps) (hg : Has w g cs 43) : l.ownBlock ≠ some g := by
  intro e
  rcases h.2 with ⟨rfl, _⟩ | ⟨g', cap, cur, rfl, _, hh, _⟩
  · cases e
  · have e' : some g' = some g := e
    simp at e'
    subst e'
    unfold Has at hg
    rw [hh] at hg
    simp at hg
abbrev zY2 : Array Value := #[.bool false, .slice none 0 0]
abbrev pvs : List (Nat × Nat × Array Value) := [(4, 100, #[]), (5, 101, #[])]
theorem flatL_length (c : Bool) (ps : List Pt) : (flatL c ps).length ≤ 300 := by
  unfold flatL
  split
  · simp
  · rename_i h
    have h0 : ¬ ps.length = 0 := fun e => h (Or.inl e)
    have h1 : okP c ps = true := by
      cases hh : okP c ps with
      | false => exact absurd (Or.inr hh) h
      | true => rfl
    have := (okP_rg h0 h1).2.1
    have := (polyN_length ps ((ps.length - 1) / 3)).2
    omega

theorem ysl_lit {w : World} {g n cp : Nat} {ys : List Po} {cs : Array Value} {t : TypeId} (hn : ys.length = n) (hf : n ≤ 100) (hs : ∀ i, i < ys.length → Psl w (po ys i).v (po ys i).ps) (h : Has w g cs t) (hc : cs = (yls ys).toArray) : Ysl w (.slice (some ⟨g, 0, none⟩) n cp) ys := ysl_has hn hf hs (hc ▸ h)
theorem ysl_one {w : World} {g : Nat} {c : Bool} {l : Value} {fs : List Pt} {t : TypeId} (hs : Psl w l fs) (h : Has w g #[.bool c, l] t) : Ysl w (.slice (some ⟨g, 0, none⟩) 1 1) [⟨c, l, fs⟩] := by
  refine ysl_lit (ys := [⟨c, l, fs⟩]) rfl (by decide) (fun i hi => ?_) h rfl
  obtain rfl : i = 0 := by simp at hi; omega
  exact hs
theorem ysl_two {w : World} {g : Nat} {c c2 : Bool} {l l2 : Value} {fs fs2 : List Pt} {t : TypeId} (hs : Psl w l fs) (hs2 : Psl w l2 fs2) (h : Has w g #[.bool c, l, .bool c2, l2] t) : Ysl w (.slice (some ⟨g, 0, none⟩) 2 2) [⟨c, l, fs⟩, ⟨c2, l2, fs2⟩] :=
  ysl_lit (ys := [⟨c, l, fs⟩, ⟨c2, l2, fs2⟩]) rfl (by decide) (fun i hi => by
    rcases (show i = 0 ∨ i = 1 by simp at hi; omega) with rfl | rfl
    · exact hs
    · exact hs2) h rfl
theorem one_alike {c : Bool} {l l2 : Value} {fs : List Pt} : ∀ j, j < [(⟨c, l, fs⟩ : Po)].length → bareY (po [(⟨c, l, fs⟩ : Po)] j) = bareY (po [(⟨c, l2, fs⟩ : Po)] j) := fun j hj => by
  obtain rfl : j = 0 := by simp at hj; omega
  rfl
theorem two_alike {c : Bool} {l l2 : Value} {fs : List Pt} {g : List Pt → List Pt} {zs ys : List Po} (h : ∀ j, j < [(⟨c, l, fs⟩ : Po), ⟨c, l2, fs⟩].length → bareY (po zs j) = ((po [(⟨c, l, fs⟩ : Po), ⟨c, l2, fs⟩] j).cl, g (po [(⟨c, l, fs⟩ : Po), ⟨c, l2, fs⟩] j).ps)) (h2 : ∀ j, j < [(⟨c, l2, fs⟩ : Po), ⟨c, l2, fs⟩].length → bareY (po ys j) = ((po [(⟨c, l2, fs⟩ : Po), ⟨c, l2, fs⟩] j).cl, g (po [(⟨c, l2, fs⟩ : Po), ⟨c, l2, fs⟩] j).ps)) : ∀ j, j < 2 → bareY (po zs j) = bareY (po ys j) := fun j hj => by
  rw [h j (by simpa using hj), h2 j (by simpa using hj)]
  rcases (show j = 0 ∨ j = 1 by omega) with rfl | rfl <;> rfl
theorem ysl_shape {w : World} {v : Value} {ys : List Po} {n : Nat} (h : Ysl w v ys) (hn : ys.length = n) : ∃ ao cap, v = .slice ao n cap := by
  obtain ⟨ao, cap, e, _⟩ := h
  exact ⟨ao, cap, by rw [e, hn]⟩
theorem Ht.ten {W w' : World} {ga gb gm : Nat} {x1 x2 x3 x4 : Value} {a b c d e f : Int} {t t' : TypeId} (h : Ht W w') (H0 : Has W ga #[x1, x2] t) (H1 : Has W gb #[x3, x4] t) (H2 : Has W gm (mCells a b c d e f) t') :
    Ht W w' ∧ w'.cell? ⟨ga, 0, none⟩ = some x1 ∧ w'.cell? ⟨ga, 1, none⟩ = some x2 ∧ w'.cell? ⟨gb, 0, none⟩ = some x3 ∧ w'.cell? ⟨gb, 1, none⟩ = some x4 ∧ w'.cell? ⟨gm, 0, none⟩ = some (.int .i64 a) ∧ w'.cell? ⟨gm, 1, none⟩ = some (.int .i64 b) ∧ w'.cell? ⟨gm, 2, none⟩ = some (.int .i64 c) ∧ w'.cell? ⟨gm, 3, none⟩ = some (.int .i64 d) ∧ w'.cell? ⟨gm, 4, none⟩ = some (.int .i64 e) ∧ w'.cell? ⟨gm, 5, none⟩ = some (.int .i64 f) := by
  have K0 := H0.below h.below H0.lt
  have K1 := H1.below h.below H1.lt
  have K2 := H2.below h.below H2.lt
  exact ⟨h, K0.cell 0 _ rfl, K0.cell 1 _ rfl, K1.cell 0 _ rfl, K1.cell 1 _ rfl, K2.cell 0 _ rfl, K2.cell 1 _ rfl, K2.cell 2 _ rfl, K2.cell 3 _ rfl, K2.cell 4 _ rfl, K2.cell 5 _ rfl⟩

set_option maxRecDepth 100000 in
set_option maxHeartbeats 4000000 in
theorem l8_same (ma mb mc md me mf : Int) {v : Value} {ps : List Pt} {w : World} (c : Bool) (h : Psl w v ps) (hcap : capOk v) :
    Calls Try.prog 6 #[.agg #[.bool c, v], .agg (mCells ma mb mc md me mf)] w fun e w' => e = .returned (.bool true) ∧ Below w.heap.size w w' := by
  obtain ⟨B, hB⟩ : ∃ B, w.heap.size = B := ⟨_, rfl⟩
  obtain ⟨W, hW⟩ : ∃ W, (w.alloc (.cells #[.bool c, v] 29)).alloc (.cells (mCells ma mb mc md me mf) 32) = W := ⟨_, rfl⟩
  have hp : Has W B #[.bool c, v] 29 := by rw [← hW]; exact (has_new hB).alloc _
  have hm : Has W (B + 1) (mCells ma mb mc md me mf) 32 := by rw [← hW]; exact has_new (by simp [hB])
  have hbl : Below w.heap.size w W := by rw [← hW]; exact ((Below.refl _ _).alloc (Nat.le_refl _) _).alloc (by simp) _
  have hs := h.below hbl (Nat.le_refl _)
  obtain ⟨fs, hfs⟩ : ∃ fs, flatL c ps = fs := ⟨_, rfl⟩
  have hfl : fs.length ≤ 300 := by rw [← hfs]; exact flatL_length c ps
  have OF := Lib.hid (fun (W' : World) (hb : Below W.heap.size W W') => hfs ▸ f_of c (hs.below hb (Nat.le_refl _)) hcap)
  have RF := Lib.hid (fun (W' : World) (hb : Below W.heap.size W W') => hfs ▸ r8_flat c (hs.below hb (Nat.le_refl _)))
  obtain ⟨ao, cap, rfl, hf, _⟩ := h
  have HP := Lib.hid hp
  have HM := Lib.hid hm
  have HBL := Lib.hid hbl
  have HW := Lib.hid hW
  have HB := Lib.hid hB
  have HFL := Lib.hid hfl
  clear hp hm hbl hW hs hfs hfl hcap
  go_enter Try.func6, Try.ntmps6
  go_upto_region 1 with fail
  rw [HW.out]
  clear hB
  refine wp_region_gen 6 [1, 3, 4, 5] [] [0, 1, 0, 1, 1, 1] (by kernel_rfl) (by kernel_rfl) (fun c a d v w h => by cases d <;> exact h) trivial (fun G w' => (∀ v, G 1 = some v → PolyO W.heap.size c fs v w') ∧ (∀ v, G 3 = some v → PolyO W.heap.size c fs v w') ∧ Vars W.heap.size 43 zY2 pvs G w') (fun G w w' h hb => ⟨fun v hv => (h.1 v hv).stay hb, fun v hv => (h.2.1 v hv).stay hb, h.2.2.stay hb⟩) ⟨fun v hv => (by cases hv), fun v hv => (by cases hv), Vars.start⟩ ?_
  apply Exists.intro
  refine ⟨fun R hR hN => ?_, ?_, ?_⟩
  · have a0 := fun z => LaterR.read (R := R) HP.out 0 _ rfl z
    have a1 := fun z => LaterR.read (R := R) HP.out 1 _ rfl z
    simp only [quietL, takeA]
    repeat (go_big_quiet_step (fail))
    exact wpQuiet_nil rfl
  · intro i oo hi ho
    have hi' : i = 1 ∨ i = 3 ∨ i = 4 ∨ i = 5 := by simpa using hi
    clear hi
    have uv : ∀ {G : Nat → Option Value} {w' : World} {k : Nat} {x : Value}, k ≠ 4 → k ≠ 5 → k < 100 → Vars W.heap.size 43 zY2 pvs G w' → Vars W.heap.size 43 zY2 pvs (updV G k x) w' := fun {G w' k x} h4 h5 h100 h => by
      have e4 : updV G k x 4 = G 4 := updV_ne G x (Ne.symm h4)
      have e5 : updV G k x 5 = G 5 := updV_ne G x (Ne.symm h5)
      have e6 : updV G k x 100 = G 100 := updV_ne G x (by omega)
      have e7 : updV G k x 101 = G 101 := updV_ne G x (by omega)
      have key : ∀ y ∈ pvs, updV G k x y.1 = G y.1 ∧ updV G k x y.2.1 = G y.2.1 := fun y hy => by
        simp at hy
        rcases hy with rfl | rfl
        · exact ⟨e4, e6⟩
        · exact ⟨e5, e7⟩
      exact ⟨fun y hy v hv => by rw [(key y hy).1] at hv; rw [(key y hy).2]; exact h.has y hy v hv, fun y hy y2 hy2 hne v h1 h2 => by rw [(key y hy).1] at h1; rw [(key y2 hy2).1] at h2; exact h.ne y hy y2 hy2 hne v h1 h2, fun y hy hn => by rw [(key y hy).1] at hn; rw [(key y hy).2]; exact h.late y hy hn⟩
    rcases hi' with rfl | rfl | rfl | rfl
    · cases ho
      intro G w' hG hGn hdep hb hR
      refine ⟨rfl, gives_none (by kernel_rfl) hGn ?_⟩
      unfold gives
      simp [go_sem]
      refine (OF.out w' hb).mono ?_
      rintro r w'' ⟨l, rfl, hol, hbb⟩
      refine ⟨_, rfl, hb.trans (hbb.mono hb.size), fun v hv => ?_, fun v hv => ?_, uv (by omega) (by omega) (by omega) (hR.2.2.stay hbb)⟩
      · rw [updV_eq] at hv; cases hv; exact ⟨l, rfl, hol.lower hb.size⟩
      · rw [updV_ne G _ (by omega)] at hv; exact (hR.2.1 v hv).stay hbb
    · cases ho
      intro G w' hG hGn hdep hb hR
      refine ⟨rfl, gives_none (by kernel_rfl) hGn ?_⟩
      unfold gives
      simp [go_sem]
      refine (RF.out w' hb).mono ?_
      rintro r w'' ⟨l, rfl, hol, hbb⟩
      refine ⟨_, rfl, hb.trans (hbb.mono hb.size), fun v hv => ?_, fun v hv => ?_, uv (by omega) (by omega) (by omega) (hR.2.2.stay hbb)⟩
      · rw [updV_ne G _ (by omega)] at hv; exact (hR.1 v hv).stay hbb
      · rw [updV_eq] at hv; cases hv; exact ⟨l, rfl, hol.lower hb.size⟩
    · cases ho
      intro G w' hG hGn hdep hb hR
      refine ⟨rfl, gives_none (by kernel_rfl) hGn ?_⟩
      unfold gives
      simp [go_sem]
      have bA : Below w'.heap.size w' (w'.alloc (.cells zY2 43)) := (Below.refl _ _).alloc (Nat.le_refl _) _
      refine ⟨hb.alloc hb.size _, fun v hv => ?_, fun v hv => ?_, hR.2.2.alloc (i := 4) (s := 100) (cs := #[]) rfl (by simp) (by intro y hy he; simp at hy; rcases hy with rfl | rfl <;> simp at he ⊢) hG hb.size⟩
      · rw [updV_ne G _ (by omega)] at hv; exact (hR.1 v hv).stay bA
      · rw [updV_ne G _ (by omega)] at hv; exact (hR.2.1 v hv).stay bA
    · cases ho
      intro G w' hG hGn hdep hb hR
      refine ⟨rfl, gives_none (by kernel_rfl) hGn ?_⟩
      unfold gives
      simp [go_sem]
      have bA : Below w'.heap.size w' (w'.alloc (.cells zY2 43)) := (Below.refl _ _).alloc (Nat.le_refl _) _
      refine ⟨hb.alloc hb.size _, fun v hv => ?_, fun v hv => ?_, hR.2.2.alloc (i := 5) (s := 101) (cs := #[]) rfl (by simp) (by intro y hy he; simp at hy; rcases hy with rfl | rfl <;> simp at he ⊢) hG hb.size⟩
      · rw [updV_ne G _ (by omega)] at hv; exact (hR.1 v hv).stay bA
      · rw [updV_ne G _ (by omega)] at hv; exact (hR.2.1 v hv).stay bA
  · intro G w3 hb3 hR hG hN
    obtain ⟨v1, e1⟩ := hG 1 (by simp)
    obtain ⟨v3, e3⟩ := hG 3 (by simp)
    obtain ⟨v4, e4⟩ := hG 4 (by simp)
    obtain ⟨v5, e5⟩ := hG 5 (by simp)
    obtain ⟨l1, rfl, o1⟩ := hR.1 v1 e1
    obtain ⟨l2, rfl, o2⟩ := hR.2.1 v3 e3
    obtain ⟨ga, rfl, la, ka⟩ := hR.2.2.has (4, 100, #[]) (by simp) v4 e4
    obtain ⟨gb, rfl, lb, kb⟩ := hR.2.2.has (5, 101, #[]) (by simp) v5 e5
    rw [if_pos (hN 100 (by simp))] at ka
    rw [if_pos (hN 101 (by simp))] at kb
    have nab : ga ≠ gb := fun e => hR.2.2.ne (4, 100, #[]) (by simp) (5, 101, #[]) (by simp) (by simp) _ e4 (by rw [e5, e])
    simp only [putV, dstAt, e1, e3, e4, e5, hN 0 (by simp), hN 2 (by simp), List.drop_succ_cons, List.drop_zero, List.getElem?_cons_succ, List.getElem?_cons_zero, Option.bind_some]
    have c00 := ka.cell 0 _ rfl
    have c01 := ka.cell 1 _ rfl
    have c10 := kb.cell 0 _ rfl
    have c11 := kb.cell 1 _ rfl
    have f0 := has_fro ka
    have f1 := has_fro kb
    have na1 := o1.ne_has ka
    have nb1 := o1.ne_has kb
    have na2 := o2.ne_has ka
    have nb2 := o2.ne_has kb
    obtain ⟨U, hU⟩ : ∃ U, (((w3.setCell ⟨ga, 0, none⟩ (.bool c)).setCell ⟨ga, 1, none⟩ l1).setCell ⟨gb, 0, none⟩ (.bool c)).setCell ⟨gb, 1, none⟩ l2 = U := ⟨_, rfl⟩
    have gw1 : w3.grownBy ((w3.setCell ⟨ga, 0, none⟩ (.bool c)).setCell ⟨ga, 1, none⟩ l1) (some ga) := grownBy_set (grownBy_set (World.grownBy.refl _ _) _ _) _ _
    have gw2 : ((w3.setCell ⟨ga, 0, none⟩ (.bool c)).setCell ⟨ga, 1, none⟩ l1).grownBy U (some gb) := by rw [← hU]; exact grownBy_set (grownBy_set (World.grownBy.refl _ _) _ _) _ _
    have KA : Has U ga #[.bool c, l1] 43 := by rw [← hU]; exact hoff2 (hset2 ka _ _) (Ne.symm nab) _ _
    have KB : Has U gb #[.bool c, l2] 43 := by rw [← hU]; exact hset2 (hoff2 kb nab _ _) _ _
    have bU : Below W.heap.size W U := by rw [← hU]; exact (((hb3.setCell la _).setCell la _).setCell lb _).setCell lb _
    have KM := HM.out.below bU HM.out.lt
    have P1 : Psl U l1 fs := ((o1.sl (by have := HFL.out; omega)).grown gw1 (fun k hk e => by simp at hk; subst hk; exact na1 e)).grown gw2 (fun k hk e => by simp at hk; subst hk; exact nb1 e)
    have P2 : Psl U l2 fs := ((o2.sl (by have := HFL.out; omega)).grown gw1 (fun k hk e => by simp at hk; subst hk; exact na2 e)).grown gw2 (fun k hk e => by simp at hk; subst hk; exact nb2 e)
    obtain ⟨a1, cp1, ex1⟩ := o1.len
    obtain ⟨a2, cp2, ex2⟩ := o2.len
    obtain ⟨F, hF⟩ : ∃ F, fs.length = F := ⟨_, rfl⟩
    rw [hF] at ex1 ex2
    subst ex1 ex2
    have XKA := Lib.hid KA
    have XKB := Lib.hid KB
    have XKM := Lib.hid KM
    have XP1 := Lib.hid P1
    have XP2 := Lib.hid P2
    have BU : Hid (Below w.heap.size w U) := Lib.hid (HBL.out.trans (bU.mono HBL.out.size))
    have HU := Lib.hid hU
    have HT0 : Hid (Ht U U) := Lib.hid (Ht.refl U)
    clear ka kb o1 o2 hR hG hN e1 e3 e4 e5 na1 nb1 na2 nb2 gw1 gw2 KA KB bU KM P1 P2 hU hb3 la lb OF RF HP HM HW hF
    go_upto_region 2 with fail
    rw [HU.out]
    clear c00 c01 c10 c11 f0 f1
    go_region_held3 (fun w' => Ht U w' ∧ w'.cell? ⟨ga, 0, none⟩ = some (.bool c) ∧ w'.cell? ⟨ga, 1, none⟩ = some (.slice a1 F cp1) ∧ w'.cell? ⟨gb, 0, none⟩ = some (.bool c) ∧ w'.cell? ⟨gb, 1, none⟩ = some (.slice a2 F cp2) ∧ w'.cell? ⟨B + 1, 0, none⟩ = some (.int .i64 ma) ∧ w'.cell? ⟨B + 1, 1, none⟩ = some (.int .i64 mb) ∧ w'.cell? ⟨B + 1, 2, none⟩ = some (.int .i64 mc) ∧ w'.cell? ⟨B + 1, 3, none⟩ = some (.int .i64 md) ∧ w'.cell? ⟨B + 1, 4, none⟩ = some (.int .i64 me) ∧ w'.cell? ⟨B + 1, 5, none⟩ = some (.int .i64 mf))
      ((go_split_ands; first | exact Ht.ten HT0.out.drew XKA.out XKB.out XKM.out | exact Ht.ten (by assumption) XKA.out XKB.out XKM.out | exact Ht.ten (Ht.alloc (by assumption) _) XKA.out XKB.out XKM.out | exact Ht.ten (Ht.alloc HT0.out.drew _) XKA.out XKB.out XKM.out | exact Ht.ten (Ht.alloc (Ht.alloc HT0.out.drew _) _) XKA.out XKB.out XKM.out | exact Ht.ten (Ht.alloc (Ht.alloc (by assumption) _) _) XKA.out XKB.out XKM.out))
      (first
        | (have mm := h3; clear mm; go_at_call 17; refine (r8_polys Y2b.out Y3.out (by rw [L2.out, L5.out]) (fun j hj => E25.out j (by rw [L2.out] at hj; exact hj))).mono ?_; rintro e w4 ⟨rfl, hq4⟩; have h4 := Ht.call h3 hq4)
        | (have mm := h2; clear mm; go_at_call 19; refine (r8_lines ma mb mc md me mf (ys := [⟨c, .slice a2 F cp2, fs⟩, ⟨c, .slice a2 F cp2, fs⟩]) (by first | exact YB.out | exact ysl_two ((XP2.out.ht h2).alloc _) ((XP2.out.ht h2).alloc _) has_new0) (by simp)).mono ?_; rintro e w5 ⟨v5, zs5, rfl, hy5, hl5, he5, hq5⟩; have h3 : Ht U w5 := (by first | exact Ht.call h2 hq5 | exact Ht.call (Ht.alloc h2 _) hq5); have Y3 := Lib.hid hy5; have L5 : Hid (zs5.length = 2) := Lib.hid hl5; have E25 := Lib.hid (two_alike E2.out he5); have Y2b : Hid (Ysl w5 (.slice av2 2 cv2) zs2) := Lib.hid (by first | exact Y2.out.below hq5 | exact (Y2.out.below ((Below.refl _ _).alloc (Nat.le_refl _) _)).below hq5))
        | (have mm := h1; clear mm; go_at_call 18; refine (f_Map ma mb mc md me mf (ys := [⟨c, .slice a1 F cp1, fs⟩, ⟨c, .slice a2 F cp2, fs⟩]) (by first | exact YM1.out | exact YM2.out | exact YM3.out)).mono ?_; rintro e w2 ⟨v2, zs2, rfl, hy2, hl2, he2, hq2⟩; have h2 : Ht U w2 := (by first | exact Ht.call (Ht.alloc h1 _) hq2 | exact Ht.call (Ht.alloc (Ht.alloc h1 _) _) hq2); have Y2 := Lib.hid hy2; have L2 : Hid (zs2.length = 2) := Lib.hid hl2; have E2 := Lib.hid he2; obtain ⟨av2, cv2, ev2⟩ := ysl_shape hy2 hl2; subst ev2; first | (have YB := Lib.hid (YA1.out _ hq2)) | (have YB := Lib.hid (YA2.out _ hq2)) | skip)
        | (go_at_call 17; refine (r8_polys (ys := [⟨c, .slice a1 F cp1, fs⟩]) (zs := [⟨c, .slice a2 F cp2, fs⟩]) (by first | exact ysl_one ((XP1.out.alloc _).alloc _).drew ((has_new rfl).alloc _).drew | exact ysl_one ((XP1.out.alloc _).alloc _).drew (has_new (by simp)).drew) (by first | exact ysl_one ((XP2.out.alloc _).alloc _).drew ((has_new rfl).alloc _).drew | exact ysl_one ((XP2.out.alloc _).alloc _).drew (has_new (by simp)).drew) rfl one_alike).mono ?_; rintro e w1 ⟨rfl, hq1⟩; have h1 : Ht U w1 := Ht.call (Ht.drew (Ht.alloc (Ht.alloc HT0.out _) _)) hq1; have YM1 := Lib.hid (ysl_two (w := w1.alloc (.cells #[.bool c, .slice a1 F cp1, .bool c, .slice a2 F cp2] 43)) ((XP1.out.ht h1).alloc _) ((XP2.out.ht h1).alloc _) has_new0); have YM2 := Lib.hid (ysl_two (w := (w1.alloc (.cells #[.bool c, .slice a1 F cp1, .bool c, .slice a2 F cp2] 43)).alloc (.cells #[.bool c, .slice a2 F cp2, .bool c, .slice a2 F cp2] 43)) (((XP1.out.ht h1).alloc _).alloc _) (((XP2.out.ht h1).alloc _).alloc _) (has_new0.alloc _)); have YM3 : Hid (Ysl ((w1.alloc (.cells #[.bool c, .slice a2 F cp2, .bool c, .slice a2 F cp2] 43)).alloc (.cells #[.bool c, .slice a1 F cp1, .bool c, .slice a2 F cp2] 43)) (.slice (some ⟨w1.heap.size + 1, 0, none⟩) 2 2) [⟨c, .slice a1 F cp1, fs⟩, ⟨c, .slice a2 F cp2, fs⟩]) := Lib.hid (ysl_two (((XP1.out.ht h1).alloc _).alloc _) (((XP2.out.ht h1).alloc _).alloc _) (has_new (by simp))); have YA1 := Lib.hid (fun (w2 : World) (hq : Below ((w1.alloc (.cells #[.bool c, .slice a1 F cp1, .bool c, .slice a2 F cp2] 43)).alloc (.cells #[.bool c, .slice a2 F cp2, .bool c, .slice a2 F cp2] 43)).heap.size ((w1.alloc (.cells #[.bool c, .slice a1 F cp1, .bool c, .slice a2 F cp2] 43)).alloc (.cells #[.bool c, .slice a2 F cp2, .bool c, .slice a2 F cp2] 43)) w2) => (show Ysl w2 (.slice (some ⟨w1.heap.size + 1, 0, none⟩) 2 2) [⟨c, .slice a2 F cp2, fs⟩, ⟨c, .slice a2 F cp2, fs⟩] from (ysl_two (((XP2.out.ht h1).alloc _).alloc _) (((XP2.out.ht h1).alloc _).alloc _) (has_new (by simp))).below hq)); have YA2 := Lib.hid (fun (w2 : World) (hq : Below ((w1.alloc (.cells #[.bool c, .slice a2 F cp2, .bool c, .slice a2 F cp2] 43)).alloc (.cells #[.bool c, .slice a1 F cp1, .bool c, .slice a2 F cp2] 43)).heap.size ((w1.alloc (.cells #[.bool c, .slice a2 F cp2, .bool c, .slice a2 F cp2] 43)).alloc (.cells #[.bool c, .slice a1 F cp1, .bool c, .slice a2 F cp2] 43)) w2) => (show Ysl w2 (.slice (some ⟨w1.heap.size, 0, none⟩) 2 2) [⟨c, .slice a2 F cp2, fs⟩, ⟨c, .slice a2 F cp2, fs⟩] from (ysl_two (((XP2.out.ht h1).alloc _).alloc _) (((XP2.out.ht h1).alloc _).alloc _) (has_new0.alloc _)).below hq))))
    all_goals
      have RB : Hid (Below w.heap.size w w4) := Lib.hid (BU.out.trans (h4.below.mono BU.out.size))
      go_wp2
      go_ret
      exact ⟨rfl, RB.out⟩

end Go.Proofs.Ytegckonhfdlbbaa

namespace Go.Proofs.Ytegckonhfdlbbaa
open Go Go.RowKit
open M

theorem kn8_f : flatL false [⟨0, 0⟩, ⟨0, 0⟩, ⟨8, 0⟩, ⟨8, 0⟩] = [⟨0, 0⟩, ⟨8, 0⟩] := by decide
theorem kn8_h : hfP ⟨-1, 0⟩ ⟨0, 0⟩ = ⟨-1, 0⟩ := by rw [hfP_eq (by unfold Rg In64; simp only; omega) (by unfold Rg In64; simp only; omega)]; rfl

set_option maxRecDepth 100000 in
set_option maxHeartbeats 2000000 in
theorem known8 (w : World) : Calls Try.prog 13 #[] w fun r w' => r = .returned (.bool true) ∧ Below w.heap.size w w' := by
  obtain ⟨B, hB⟩ : ∃ B, w.heap.size = B := ⟨_, rfl⟩
  obtain ⟨W, hW⟩ : ∃ W, w.alloc (.cells #[.int .i64 0, .int .i64 0, .int .i64 0, .int .i64 0, .int .i64 8, .int .i64 0, .int .i64 8, .int .i64 0] 35) = W := ⟨_, rfl⟩
  have k0 : Has W B #[.int .i64 0, .int .i64 0, .int .i64 0, .int .i64 0, .int .i64 8, .int .i64 0, .int .i64 8, .int .i64 0] 35 := by rw [← hW]; exact has_new hB
  have OF := f_of false (psl_lit (ps := [⟨0, 0⟩, ⟨0, 0⟩, ⟨8, 0⟩, ⟨8, 0⟩]) 4 4 rfl (by decide) k0 rfl) (Nat.le_refl 4)
  rw [kn8_f] at OF
  have bW : Below B w W := by rw [← hW]; exact (Below.refl _ _).alloc (by omega) _
  have OFH := Lib.hid OF
  have BW := Lib.hid bW
  have HW := Lib.hid hW
  have HB := Lib.hid hB
  have rg : ∀ x y : Int, -1000 ≤ x → x ≤ 1000 → -1000 ≤ y → y ≤ 1000 → Rg ⟨x, y⟩ := fun x y h1 h2 h3 h4 => by unfold Rg In64; simp only; omega
  have BD := Lib.hid (fun w => f_Bend (a := ⟨0, 0⟩) (b := ⟨0, 0⟩) (c := ⟨80, 0⟩) (d := ⟨80, 0⟩) w (rg _ _ (by omega) (by omega) (by omega) (by omega)) (rg _ _ (by omega) (by omega) (by omega) (by omega)) (rg _ _ (by omega) (by omega) (by omega) (by omega)) (rg _ _ (by omega) (by omega) (by omega) (by omega)))
  clear OF bW hW k0 rg
  go_enter Try.func13, Try.ntmps13
  go_wp2_with fail
  rw [HW.out]
  clear hB
  refine OFH.out.mono ?_
  rintro e w1 ⟨v1, rfl, ho1, hb1⟩
  obtain ⟨g1, cap1, rfl⟩ := ho1.shape (by decide)
  obtain ⟨V, hV⟩ : ∃ V, w1.alloc (.cells #[.bool false, .slice (some ⟨g1, 0, none⟩) 2 cap1] 43) = V := ⟨_, rfl⟩
  obtain ⟨gp, hgp⟩ : ∃ g, w1.heap.size = g := ⟨_, rfl⟩
  have kp : Has V gp #[.bool false, .slice (some ⟨g1, 0, none⟩) 2 cap1] 43 := by rw [← hV]; exact has_new hgp
  have oV : Pown V W.heap.size (.slice (some ⟨g1, 0, none⟩) 2 cap1) [⟨0, 0⟩, ⟨8, 0⟩] := by rw [← hV]; exact ho1.alloc _
  have bV : Below B w V := by rw [← hV]; exact (BW.out.trans (hb1.mono (by have := BW.out.size; have := HB.out; omega))).alloc (by have := BW.out.size; have := hb1.size; have := HB.out; omega) _
  have KP := Lib.hid kp
  have OV := Lib.hid oV
  have BV := Lib.hid bV
  have HV := Lib.hid hV
  clear kp oV bV hV ho1 hb1 OFH BW HW
  go_upto_region 2 with fail
  rw [HV.out]
  clear hgp
  go_wp2_with fail
  refine (BD.out _).mono ?_
  rintro e w2 ⟨g2, cap2, rfl, ho2, hb2⟩
  rw [bendL_length] at ho2 ⊢
  have kp := KP.out.below hb2 KP.out.lt
  have p0 := kp.cell 0 _ rfl
  have p1 := kp.cell 1 _ rfl
  have r1 := (OV.out.below hb2 (Nat.le_refl _)).row (by decide) (by decide)
  have r2 := ho2.row (by rw [bendL_length]; decide) (by rw [bendL_length]; decide)
  have x1 := r1.c0 1 (by decide)
  have x2 := r2.c0 7 (by rw [bendL_length]; decide)
  rw [bendL_last 3] at x2
  simp only [Nat.zero_add, Nat.reduceMul, pt_cons, pt_zero] at x1 x2
  have B2 : Below B w w2 := BV.out.trans (hb2.mono (by have := BV.out.size; have := HB.out; omega))
  have HB2 := Lib.hid B2
  clear kp r1 r2 ho2 hb2 OV KP BV B2
  go_wp2_with fail
  refine (f_Half ⟨-1, 0⟩ ⟨0, 0⟩ _).mono ?_
  rw [kn8_h]
  rintro e w3 ⟨rfl, hb3⟩
  have HB3 : Hid (Below B w w3) := Lib.hid (HB2.out.trans (hb3.mono (by have := HB2.out.size; have := HB.out; omega)))
  clear hb3 p0 p1 x1 x2
  go_wp2
  go_ret
  exact ⟨rfl, by rw [HB.out]; exact HB3.out⟩

end Go.Proofs.Ytegckonhfdlbbaa

namespace Go.Proofs.Ytegckonhfdlbbaa
open Go.RowKit
open M

/-- The numbers of a tape lie below block B. -/
def Src (B : Nat) (v : Value) : Prop := ∀ b o n cap, v = .slice (some ⟨b, o, none⟩) n cap → 0 < n → b < B
theorem Nums.src {w : World} {v : Value} (h : Nums w v) : Src w.heap.size v := by
  intro b o n cap hv h0
  rcases h with ⟨ao, cap', hv'⟩ | ⟨b', o', n', cap', hv', hp, _, hc⟩
  · rw [hv] at hv'
    simp at hv'
    omega
  · rw [hv] at hv'
    simp at hv'
    obtain ⟨⟨rfl, rfl⟩, rfl, rfl⟩ := hv'
    obtain ⟨x, hx⟩ := hc 0 hp
    exact World.block_lt_of_cell? w _ hx
theorem tp_start {w w' : World} {g : Nat} {l : Value} (hN : Nums w l) (hh : Has w' g #[l, .int .i64 0] 25) (hb : Below w.heap.size w w') (hg : w.heap.size ≤ g) : Tp w' g l := by
  rcases hN with ⟨ao, cap, hv⟩ | ⟨b, o, n, cap, hv, h0, h1, hc⟩
  · exact Or.inl ⟨ao, cap, hv, hh⟩
  · have hlt : ∀ i, i < n → b < w.heap.size := fun i hi => by
      obtain ⟨x, hx⟩ := hc i hi
      exact World.block_lt_of_cell? w _ hx
    refine Or.inr ⟨b, o, n, cap, 0, hv, h0, by have := hlt 0 h0; omega, h1, Nat.zero_le _, hh, fun i hi => ?_⟩
    obtain ⟨x, hx⟩ := hc i hi
    exact ⟨x, (hb.cell (p := ⟨b, _, _⟩) (hlt i hi)).trans hx⟩
theorem Tp.other {w1 w2 : World} {g g' B : Nat} {v : Value} (h : Tp w1 g v) (hs : Src B v) (hg : w1.grownBy w2 (some g')) (hne : g' ≠ g) (hB : B ≤ g') : Tp w2 g v :=
  h.grown hg fun k hk => by
    simp at hk
    subst hk
    exact ⟨hne, fun b o n cap hv h0 e => by have := hs b o n cap hv h0; omega⟩
theorem Nums.shape {w : World} {v : Value} (h : Nums w v) : ∃ ao n cap, v = .slice ao n cap := by
  rcases h with ⟨ao, cap, rfl⟩ | ⟨b, o, n, cap, rfl, _⟩
  · exact ⟨_, _, _, rfl⟩
  · exact ⟨_, _, _, rfl⟩
/-- A later world: what was in W is as it was, block g apart. -/
structure Hy (W : World) (g : Nat) (w' : World) : Prop where
  grown : W.grownBy w' (some g)
theorem Hy.refl (W : World) (g : Nat) : Hy W g W := ⟨World.grownBy.refl _ _⟩
theorem Hy.call {W w' w'' : World} {g : Nat} (h : Hy W g w') (hq : Below w'.heap.size w' w'') : Hy W g w'' :=
  ⟨h.grown |> fun h => ⟨hq.os.trans h.os, hq.tape.trans h.tape, hq.output.trans h.output, Nat.le_trans h.size hq.size, fun k hk hr => (hq.block k (Nat.lt_of_lt_of_le hk h.size)).trans (h.block k hk hr)⟩⟩
theorem Hy.tape {W w' w'' : World} {g : Nat} (h : Hy W g w') (hq : w'.grownBy w'' (some g)) : Hy W g w'' := ⟨grownBy_trans h.grown hq⟩
theorem Hy.drew {W w' : World} {g : Nat} (h : Hy W g w') : Hy W g w'.drew := h.call (below_drew (Below.refl _ _))
theorem Hy.alloc {W w' : World} {g : Nat} (h : Hy W g w') (o : Obj) : Hy W g (w'.alloc o) := h.call ((Below.refl _ _).alloc (Nat.le_refl _) _)
theorem Hy.has {W w' : World} {g k : Nat} {cs : Array Value} {t : TypeId} (h : Hy W g w') (hh : Has W k cs t) (hne : k ≠ g) : Has w' k cs t := has_grown hh h.grown hne
theorem Hy.sl {W w' : World} {g : Nat} {v : Value} {ps : List Pt} (h : Hy W g w') (hs : Psl W v ps) (hv : v.ownBlock ≠ some g) : Psl w' v ps := hs.grown h.grown fun k hk e => by simp at hk; subst hk; exact hv e
theorem Tp.calls {w w' : World} {g : Nat} {v : Value} (h : Tp w g v) (hq : Below w.heap.size w w') : Tp w' g v := h.blocks fun k hk => hq.block k hk
theorem Pown.off {w : World} {B g : Nat} {v : Value} {ps : List Pt} (h : Pown w B v ps) (hg : g < B) : v.ownBlock ≠ some g := fun e => by have := (h.base g e).1; omega
theorem below_of_grown {w w' : World} {B : Nat} (h : w.grownBy w' (some B)) (hB : w.heap.size ≤ B) : Below w.heap.size w w' := ⟨h.os, h.tape, h.output, h.size, fun k hk => h.block k hk (fun e => by simp at e; omega)⟩
theorem below_on {w w1 w' : World} {B g : Nat} (h1 : Below B w w1) (h : w1.grownBy w' (some g)) (hg : B ≤ g) (hs : B ≤ w1.heap.size) : Below B w w' :=
  ⟨h.os.trans h1.os, h.tape.trans h1.tape, h.output.trans h1.output, Nat.le_trans h1.size h.size, fun k hk => (h.block k (by omega) (fun e => by simp at e; omega)).trans (h1.block k hk)⟩

end Go.Proofs.Ytegckonhfdlbbaa

namespace Go.Proofs.Ytegckonhfdlbbaa
open Go Go.RowKit
open M

/-- Numbers of the call's own. -/
def Iown (w : World) (base : Nat) (v : Value) (xs : List Int) : Prop := w.ownsRow base 3 1 v xs.length (xs.map (Value.int .i64))
theorem Iown.nums {w : World} {B : Nat} {v : Value} {xs : List Int} (h : Iown w B v xs) (hf : xs.length ≤ 1000) : Nums w v := by
  rcases h.2 with ⟨rfl, hn⟩ | ⟨g, cap, cur, rfl, _, hg, _, _, _, ht⟩
  · exact Or.inl ⟨_, _, rfl⟩
  · by_cases h0 : xs.length = 0
    · rw [h0]; exact Or.inl ⟨_, _, rfl⟩
    · refine Or.inr ⟨g, 0, _, cap, rfl, by omega, by omega, fun i hi => ?_⟩
      have hu : (xs.map (Value.int .i64))[i]? = some (.int .i64 (xs.getD i 0)) := by simp [List.getD, hi]
      refine ⟨xs.getD i 0, ?_⟩
      rw [Nat.zero_add, cell_of_row w g i cur _ _ hg]
      rw [← ht, List.getElem?_take] at hu
      split at hu
      · simpa using hu
      · cases hu
theorem Try.infoInt : (Try.prog.info? 3).map (fun i => (i.zero, i.size, i.bytes)) = some (some (.int .i64 0), 1, 8) := by kernel_rfl

theorem Nums.on {w w' : World} {v : Value} (h : Nums w v) (hb : Below w.heap.size w w') : Nums w' v := by
  rcases h with h | ⟨b, o, n, cap, hv, h0, h1, hc⟩
  · exact Or.inl h
  · refine Or.inr ⟨b, o, n, cap, hv, h0, h1, fun i hi => ?_⟩
    obtain ⟨x, hx⟩ := hc i hi
    exact ⟨x, (hb.cell (p := ⟨b, _, _⟩) (World.block_lt_of_cell? w _ hx)).trans hx⟩
theorem new_one {w : World} {x : Value} {t : TypeId} {g : Nat} (hg : w.heap.size = g) : ∀ j u, [x][j]? = some u → (w.alloc (.cells #[x] t)).cell? ((⟨g, 0, none⟩ : Addr).add j) = some u := by
  intro j u hu
  rw [Addr.add_lit, Nat.zero_add]
  exact (has_new hg).cell j u (by simpa using hu)
theorem Iown.alloc {w : World} {B : Nat} {v : Value} {xs : List Int} (h : Iown w B v xs) (o : Obj) : Iown (w.alloc o) B v xs := World.ownsRow.alloc h o
theorem Iown.base {w : World} {B : Nat} {v : Value} {xs : List Int} (h : Iown w B v xs) (k : Nat) (hk : v.ownBlock = some k) : B ≤ k ∧ k < w.heap.size := World.ownsRow.lt h k hk
theorem ones_one (x : Int) : ∀ u ∈ [Value.int .i64 x], u.oneCell' = true := by
  intro u hu
  simp at hu
  subst hu
  rfl

end Go.Proofs.Ytegckonhfdlbbaa

namespace Go.Proofs.Ytegckonhfdlbbaa
open Go Go.RowKit
open M

theorem Pown.capOk' {w : World} {B : Nat} {v : Value} {ps : List Pt} (h : Pown w B v ps) : capOk v := by
  rcases h.2 with ⟨rfl, _⟩ | ⟨g, cap, cur, rfl, _, _, h1, _⟩
  · exact Nat.le_refl _
  · exact h1
abbrev ten : Array Value := #[.int .i64 0, .int .i64 1, .int .i64 (-1), .int .i64 3, .int .i64 (-3), .int .i64 67108864, .int .i64 (-67108864), .int .i64 9223372036854775807, .int .i64 (-9223372036854775808), .int .i64 4611686018427387904]
theorem ten_at {w : World} {g j : Nat} {t : TypeId} (h : Has w g ten t) (hj : j < 10) : ∃ v : Int, w.cell? ⟨g, j, none⟩ = some (.int .i64 v) ∧ In64 v := by
  rcases (show j = 0 ∨ j = 1 ∨ j = 2 ∨ j = 3 ∨ j = 4 ∨ j = 5 ∨ j = 6 ∨ j = 7 ∨ j = 8 ∨ j = 9 by omega) with rfl | rfl | rfl | rfl | rfl | rfl | rfl | rfl | rfl | rfl
  · exact ⟨_, h.cell 0 _ rfl, by unfold In64; omega⟩
  · exact ⟨_, h.cell 1 _ rfl, by unfold In64; omega⟩
  · exact ⟨_, h.cell 2 _ rfl, by unfold In64; omega⟩
  · exact ⟨_, h.cell 3 _ rfl, by unfold In64; omega⟩
  · exact ⟨_, h.cell 4 _ rfl, by unfold In64; omega⟩
  · exact ⟨_, h.cell 5 _ rfl, by unfold In64; omega⟩
  · exact ⟨_, h.cell 6 _ rfl, by unfold In64; omega⟩
  · exact ⟨_, h.cell 7 _ rfl, by unfold In64; omega⟩
  · exact ⟨_, h.cell 8 _ rfl, by unfold In64; omega⟩
  · exact ⟨_, h.cell 9 _ rfl, by unfold In64; omega⟩

set_option maxRecDepth 100000 in
set_option maxHeartbeats 4000000 in
theorem flatNumbers_walk (w : World) :
    Calls Try.prog 3 #[] w fun r w' => r = .returned (.bool true) ∧ Below w.heap.size w w' := by
  obtain ⟨j0, hj, hy0, hy1, hy2⟩ := info_parts Try.infoInt
  obtain ⟨B, hB⟩ : ∃ B, w.heap.size = B := ⟨_, rfl⟩
  have HB := Lib.hid hB
  clear hB
  go_enter Try.func3, Try.ntmps3
  go_wp2
  go_loopw [1] (fun i wr => ∃ k : Nat, k ≤ 40 ∧ i = .int .i64 k ∧ Below B w wr ∧ B ≤ wr.heap.size) (fun i _ => 40 - (intOf i).toNat)
  case atStart => exact ⟨0, by omega, rfl, Below.refl _ _, by have := HB.out; omega⟩
  case round =>
    obtain ⟨k, hk, rfl, hb, hs⟩ := hrel
    rename World => v4
    have B4 := Lib.hid hb
    have s4 := Lib.hid hs
    clear hb hs
    by_cases hk40 : k < 40
    · have o1 : (k : Int) < 40 := by omega
      go_wp2_with fail
      go_loopw [2, 3] (fun t i wr => ∃ (q : Nat) (xs : List Int), q ≤ 60 ∧ i = .int .i64 q ∧ xs.length = q ∧ Iown wr B t xs ∧ Below B w wr ∧ B ≤ wr.heap.size) (fun _ i _ => 60 - (intOf i).toNat)
      case atStart => exact ⟨0, [], by omega, rfl, rfl, World.ownsRow_nil _ _ _ _, B4.out, s4.out⟩
      case round =>
        clear B4 s4
        obtain ⟨q, xs, hq, rfl, hl, ho, hb, hs⟩ := hrel
        rename World => v5
        by_cases hlt : q < 60
        · have o2 : (q : Int) < 60 := by omega
          have HO := Lib.hid ho
          have HL := Lib.hid hl
          have B5 := Lib.hid hb
          have s5 := Lib.hid hs
          clear ho hl hb hs
          go_wp2_with (at_builtin; refine wpList_append_near _ rfl _ _ 22 rfl B 3 j0 (.int .i64 0) 1 8 Try.underlying22 hj hy0 hy1 hy2 rfl (by decide) _ xs.length (xs.map (Value.int .i64)) rfl (HO.out.alloc _) ⟨v5.heap.size, 0, none⟩ 1 1 [.int .i64 _] rfl rfl (new_one rfl) (ones_one _) ?c3 ?c4 ?c5 ?_)
          case c3 => have := HL.out; unfold maxLen; omega
          case c4 => have := HL.out; omega
          case c5 => have := s5.out; simp; omega
          intro t' w6 hown' hg' hnear
          have R : Hid (∃ ys : List Int, ys.length = q + 1 ∧ Iown w6 B t' ys) := Lib.hid ⟨xs ++ [_], by simp [HL.out], by unfold Iown; simpa using hown'⟩
          have B6 : Hid (Below B w w6 ∧ B ≤ w6.heap.size) := Lib.hid ⟨(B5.out.alloc s5.out _).grown hg' (by have := s5.out; simp; omega) (fun k hk => (HO.out.base k hk).1), by have := hg'.size; have := s5.out; simp at *; omega⟩
          clear hown' hg' hnear HO B5 s5
          go_wp2
          go_roundw
          case rel => obtain ⟨ys, y1, y2⟩ := R.out; exact ⟨q + 1, ys, by omega, by go_num, y1, y2, B6.out.1, B6.out.2⟩
          case measure => simp [intOf]; omega
        · have oq : ¬ (q : Int) < 60 := by omega
          have NU := ho.nums (by omega)
          have B5 := Lib.hid hb
          have s5 := Lib.hid hs
          obtain ⟨at_, nt, ct, ev⟩ := NU.shape
          subst ev
          obtain ⟨W, hW⟩ : ∃ W, v5.alloc (.cells #[.slice at_ nt ct, .int .i64 0] 25) = W := ⟨_, rfl⟩
          obtain ⟨g, hg⟩ : ∃ g, v5.heap.size = g := ⟨_, rfl⟩
          have hb0 : Below v5.heap.size v5 W := by rw [← hW]; exact (Below.refl _ _).alloc (Nat.le_refl _) _
          have T1 : Tp W g (.slice at_ nt ct) := tp_start NU (by rw [← hW]; exact has_new hg) hb0 (by omega)
          have sg : g < W.heap.size := T1.lt
          obtain ⟨n, hn⟩ : ∃ n : Nat, n = 1 + k % 5 := ⟨_, rfl⟩
          obtain ⟨c, hc⟩ : ∃ c : Bool, ((k : Int) % 2 == 0) = c := ⟨_, rfl⟩
          have en : (1 : Int) + (k : Int) % 5 = (n : Int) := by omega
          have hn5 : n ≤ 5 ∧ 1 ≤ n := by omega
          have HW := Lib.hid hW
          have HT := Lib.hid T1
          have BW : Hid (Below B w W ∧ B ≤ g) := Lib.hid ⟨hb.trans (hb0.mono hs), by omega⟩
          have HN5 := Lib.hid hn5
          clear ho hl hb hs NU hW hb0 T1 hn hn5
          go_upto_region 10 with fail
          rw [HW.out]
          clear hg
          go_wp2_with fail
          refine (t_path g _ n c _ (by have := HN5.out; omega) HT.out).mono ?_
          rintro e w6 ⟨vp, ps, rfl, hl6, sm, ho6, ht6, hg6⟩
          have B6 : Hid (Below B w w6) := Lib.hid (below_on BW.out.1 hg6 BW.out.2 (by have := BW.out; omega))
          have s6 : Hid (B ≤ w6.heap.size) := Lib.hid (by have := hg6.size; have := BW.out; omega)
          have SA := Lib.hid (l8_same 131072 5 (-65536) 65536 9 (-9) c (ho6.sl (by have := HN5.out; omega)) ho6.capOk')
          obtain ⟨ap, cp, ex⟩ := ho6.len
          subst ex
          clear hl6 sm ho6 ht6 hg6 en hc
          go_wp2_with fail
          refine SA.out.mono ?_
          rintro e w7 ⟨rfl, hq7⟩
          have B7 : Hid (Below B w w7 ∧ B ≤ w7.heap.size) := Lib.hid ⟨B6.out.trans (hq7.mono s6.out), by have := hq7.size; have := s6.out; omega⟩
          clear hq7
          go_wp2
          go_roundw
          case rel => exact ⟨k + 1, by omega, by go_num, B7.out.1, B7.out.2⟩
          case measure => simp [intOf]; omega
    · have ok : ¬ (k : Int) < 40 := by omega
      obtain ⟨W, hW⟩ : ∃ W, v4.alloc (.cells ten 2) = W := ⟨_, rfl⟩
      obtain ⟨g, hg⟩ : ∃ g, v4.heap.size = g := ⟨_, rfl⟩
      have BW : Hid (Below B w W ∧ B ≤ W.heap.size ∧ Has W g ten 2) := Lib.hid (by rw [← hW]; exact ⟨B4.out.alloc s4.out _, by have := s4.out; simp; omega, has_new hg⟩)
      have HW := Lib.hid hW
      clear hW B4 s4
      go_wp2_with fail
      rw [HW.out]
      clear hg
      go_loopw [47, 6] (fun i _ wr => ∃ p : Nat, p ≤ 10 ∧ i = .int .i64 p ∧ Below B w wr ∧ B ≤ wr.heap.size ∧ Has wr g ten 2) (fun i _ _ => 10 - (intOf i).toNat)
      case atStart => exact ⟨0, by omega, rfl, BW.out.1, BW.out.2.1, BW.out.2.2⟩
      case round =>
        clear BW HW
        obtain ⟨p, hp, rfl, hb, hs, hG⟩ := hrel
        rename World => v5
        have B5 := Lib.hid (And.intro hb (And.intro hs hG))
        clear hb hs hG
        by_cases hlp : p < 10
        · have o2 : (p : Int) < 10 := by omega
          go_wp2_with fail
          go_loopw [52, 7] (fun i _ wr => ∃ r : Nat, r ≤ 10 ∧ i = .int .i64 r ∧ Below B w wr ∧ B ≤ wr.heap.size ∧ Has wr g ten 2) (fun i _ _ => 10 - (intOf i).toNat)
          case atStart => exact ⟨0, by omega, rfl, B5.out.1, B5.out.2.1, B5.out.2.2⟩
          case round =>
            clear B5
            obtain ⟨r, hr, rfl, hb, hs, hG⟩ := hrel
            rename World => v6
            have B6 := Lib.hid (And.intro hb hs)
            have G6 := Lib.hid hG
            clear hb hs
            by_cases hlr : r < 10
            · obtain ⟨J, hJ⟩ : ∃ J : Nat, J = (p + 3) % 10 := ⟨_, rfl⟩
              have hJ10 : J < 10 := by omega
              have eJ : ((p : Int) + 3) % 10 = (J : Int) := by omega
              have eJ2 : ((p : Int) + 3).tmod 10 = (J : Int) := by rw [Int.tmod_eq_emod_of_nonneg (by omega)]; exact eJ
              obtain ⟨x1, cx1, rx1⟩ := ten_at hG hlp
              obtain ⟨x2, cx2, rx2⟩ := ten_at hG hlr
              obtain ⟨x3, cx3, rx3⟩ := ten_at hG hJ10
              have RW : Hid (∀ (R : World → Prop) (z : LaterR v6 R), z.to.cell? ⟨g, p, none⟩ = some (.int .i64 x1) ∧ z.to.cell? ⟨g, r, none⟩ = some (.int .i64 x2) ∧ z.to.cell? ⟨g, J, none⟩ = some (.int .i64 x3)) := Lib.hid (fun R z => ⟨(z.below.cell (p := ⟨g, _, _⟩) hG.lt).trans cx1, (z.below.cell (p := ⟨g, _, _⟩) hG.lt).trans cx2, (z.below.cell (p := ⟨g, _, _⟩) hG.lt).trans cx3⟩)
              have RA : Hid (Rg ⟨x1, x2⟩) := Lib.hid ⟨rx1, rx2⟩
              have RB : Hid (Rg ⟨x2, x3⟩) := Lib.hid ⟨rx2, rx3⟩
              have o3 : (r : Int) < 10 := by omega
              have o4 : (J : Int) < 10 := by omega
              clear hJ hG cx1 cx2 cx3 rx1 rx2 rx3
              go_upto_region 19 with fail
              refine wp_region_gen 23 [20, 21, 22] [] [0, 0, 0, 0, 0, 0, 0, 0, 0, 0, 0, 0, 0, 0, 0, 0, 0, 0, 0, 0, 1, 1, 1] (by kernel_rfl) (by kernel_rfl) (fun c a d v w h => by cases d <;> exact h) trivial (fun G w' => Vars v6.heap.size 35 zc [(20, 22, pCells ⟨x1, x2⟩), (21, 23, pCells ⟨x2, x3⟩)] G w') (fun G w w' h hb => h.stay hb) Vars.start ?_
              apply Exists.intro
              refine ⟨fun R hR hN => ?_, ?_, ?_⟩
              · have y1 := fun z => (RW.out R z).1
                have y2 := fun z => (RW.out R z).2.1
                have y3 := fun z => (RW.out R z).2.2
                simp only [quietL, takeA]
                repeat (go_big_quiet_step (fail))
                exact wpQuiet_nil rfl
              · intro i oo hi ho
                have hi' : i = 20 ∨ i = 21 ∨ i = 22 := by simpa using hi
                clear hi
                rcases hi' with rfl | rfl | rfl
                · cases ho
                  intro G w' hG hGn hdep hb hR
                  refine ⟨rfl, gives_none (by kernel_rfl) hGn ?_⟩
                  unfold gives
                  simp [go_sem]
                  exact ⟨hb.alloc hb.size _, hR.alloc (i := 20) (s := 22) (cs := pCells ⟨x1, x2⟩) rfl (by simp) (by intro y hy he; simp at hy; rcases hy with rfl | rfl <;> simp at he ⊢) hG hb.size⟩
                · cases ho
                  intro G w' hG hGn hdep hb hR
                  refine ⟨rfl, gives_none (by kernel_rfl) hGn ?_⟩
                  unfold gives
                  simp [go_sem]
                  exact ⟨hb.alloc hb.size _, hR.alloc (i := 21) (s := 23) (cs := pCells ⟨x2, x3⟩) rfl (by simp) (by intro y hy he; simp at hy; rcases hy with rfl | rfl <;> simp at he ⊢) hG hb.size⟩
                · cases ho
                  intro G w' hG hGn hdep hb hR
                  obtain ⟨v, hv⟩ := Option.ne_none_iff_exists'.1 (hdep 20 (by simp) (by kernel_rfl))
                  obtain ⟨gx, rfl, hgx, hhx⟩ := hR.has (20, 22, pCells ⟨x1, x2⟩) (by simp) v hv
                  rw [if_pos hG] at hhx
                  refine ⟨rfl, gives_one (k := 20) (by kernel_rfl) hGn (by omega) hv ?_⟩
                  have cx0 := hhx.cell 0 _ rfl
                  have cx1 := hhx.cell 1 _ rfl
                  have fx := has_fro hhx
                  unfold gives
                  simp [go_sem, dstAt, Act.put, cx0, cx1, fx]
                  exact ⟨(hb.setCell hgx _).setCell hgx _, hR.store (i := 20) (s := 22) (za := .int .i64 0) (zb := .int .i64 0) rfl rfl (by simp) (by intro y hy he; simp at hy; rcases hy with rfl | rfl <;> simp at he ⊢) hv hG⟩
              · intro G w3 hb3 hR hG hN
                obtain ⟨v0, e0⟩ := hG 20 (by simp)
                obtain ⟨v1, e1⟩ := hG 21 (by simp)
                obtain ⟨s0, t0⟩ := hG 22 (by simp)
                obtain ⟨g0, rfl, l0, k0⟩ := hR.has (20, 22, pCells ⟨x1, x2⟩) (by simp) v0 e0
                obtain ⟨g1, rfl, l1, k1⟩ := hR.has (21, 23, pCells ⟨x2, x3⟩) (by simp) v1 e1
                rw [if_neg (by simp [t0])] at k0
                rw [if_pos (hN 23 (by simp))] at k1
                have n01 : g0 ≠ g1 := fun e => hR.ne (20, 22, pCells ⟨x1, x2⟩) (by simp) (21, 23, pCells ⟨x2, x3⟩) (by simp) (by simp) _ e0 (by rw [e1, e])
                have nn : ∀ j, j < 20 → G j = none := fun j hj => hN j (by simp; omega)
                simp only [putV, dstAt, e0, e1, t0, nn 0 (by decide), nn 1 (by decide), nn 2 (by decide), nn 3 (by decide), nn 4 (by decide), nn 5 (by decide), nn 6 (by decide), nn 7 (by decide), nn 8 (by decide), nn 9 (by decide), nn 10 (by decide), nn 11 (by decide), nn 12 (by decide), nn 13 (by decide), nn 14 (by decide), nn 15 (by decide), nn 16 (by decide), nn 17 (by decide), nn 18 (by decide), nn 19 (by decide), List.drop_succ_cons, List.drop_zero, List.getElem?_cons_succ, List.getElem?_cons_zero, Option.bind_some]
                have c30 := k1.cell 0 _ rfl
                have c31 := k1.cell 1 _ rfl
                have f3 := has_fro k1
                obtain ⟨U, hU⟩ : ∃ V, (w3.setCell ⟨g1, 0, none⟩ (.int .i64 x2)).setCell ⟨g1, 1, none⟩ (.int .i64 x3) = V := ⟨_, rfl⟩
                have KA : Has U g0 (pCells ⟨x1, x2⟩) 35 := by rw [← hU]; exact hoff2 k0 (Ne.symm n01) _ _
                have KB : Has U g1 (pCells ⟨x2, x3⟩) 35 := by rw [← hU]; exact hset2 k1 _ _
                have bU : Below v6.heap.size v6 U := by rw [← hU]; exact hb3.trans (below_set2 l1 _ _)
                have XA := Lib.hid KA
                have XB := Lib.hid KB
                have BU : Hid (Below v6.heap.size v6 U) := Lib.hid bU
                have HU := Lib.hid hU
                have HT0 : Hid (Ht U U) := Lib.hid (Ht.refl U)
                clear k0 k1 hb3 KA KB bU hU l0 l1 hR hG hN nn e0 e1 t0 n01 RW eJ eJ2
                obtain ⟨m, hm⟩ : ∃ m, hvP ⟨x1, x2⟩ ⟨x2, x3⟩ = m := ⟨_, rfl⟩
                have HF : Hid (∀ w, Calls Try.prog 8 #[.agg (pCells ⟨x1, x2⟩), .agg (pCells ⟨x2, x3⟩)] w fun r w' => r = .returned (.agg (pCells m)) ∧ Below w.heap.size w w') := Lib.hid (fun w => by have := f_Half ⟨x1, x2⟩ ⟨x2, x3⟩ w; rw [hfP_eq RA.out RB.out, hm] at this; exact this)
                have HR : Hid (∀ w, Calls Try.prog 9 #[.agg (pCells ⟨x1, x2⟩), .agg (pCells ⟨x2, x3⟩)] w fun r w' => r = .returned (.agg (pCells m)) ∧ Below w.heap.size w w') := Lib.hid (fun w => by have := r8_Half ⟨x1, x2⟩ ⟨x2, x3⟩ w; rw [hrP_eq RA.out RB.out, hm] at this; exact this)
                have BF := Lib.hid (fun w => f_Bend w RA.out RB.out RB.out RA.out)
                have BR := Lib.hid (fun w => r8_Bend w RA.out RB.out RB.out RA.out)
                obtain ⟨rs, hrs⟩ : ∃ rs, bendL 3 ⟨x1, x2⟩ ⟨x2, x3⟩ ⟨x2, x3⟩ ⟨x1, x2⟩ = rs := ⟨_, rfl⟩
                have L8 : Hid (rs.length = 8) := Lib.hid (by rw [← hrs]; exact bendL_length 3 _ _ _ _)
                rw [hrs] at BF BR
                clear hm hrs
                go_upto_region 20 with fail
                rw [HU.out]
                clear c30 c31 f3 HU
                go_region_held3 (fun w' => Ht U w' ∧ w'.cell? ⟨g0, 0, none⟩ = some (.int .i64 x1) ∧ w'.cell? ⟨g0, 1, none⟩ = some (.int .i64 x2) ∧ w'.cell? ⟨g1, 0, none⟩ = some (.int .i64 x2) ∧ w'.cell? ⟨g1, 1, none⟩ = some (.int .i64 x3))
                  ((go_split_ands; first | exact Ht.two HT0.out.drew XA.out XB.out | exact Ht.two (by assumption) XA.out XB.out))
                  (first
                    | (have mm := h4; clear mm; go_at_call 10; refine (r8_points Y1.out Y2.out).mono ?_; rw [decide_eq_true rfl]; rintro e w9 ⟨rfl, hq9⟩; have h5 := Ht.call h4 hq9)
                    | (have mm := h3; clear mm; go_at_call 12; refine (BR.out _).mono ?_; rintro e w8 ⟨gy, cy, rfl, hl8, ho8, hq8⟩; have h4 := Ht.call h3 hq8; have Y2 := Lib.hid (ho8.sl (by omega)); have Y1 := Lib.hid (Y0.out.below hq8 (Nat.le_refl _)))
                    | (have mm := h2; clear mm; go_at_call 11; refine (BF.out _).mono ?_; rintro e w7 ⟨gx, cx, rfl, ho7, hq7⟩; rw [L8.out]; rw [L8.out] at ho7; have h3 := Ht.call h2 hq7; have Y0 := Lib.hid (ho7.sl (by rw [L8.out]; decide)))
                    | (have mm := h1; clear mm; go_at_call 9; refine (HR.out _).mono ?_; rintro e w5' ⟨rfl, hq5⟩; have h2 := Ht.call h1 hq5)
                    | (go_at_call 8; refine (HF.out _).mono ?_; rintro e w4' ⟨rfl, hq4⟩; have h1 := Ht.call HT0.out.drew hq4))
                all_goals
                  have q1 : Below v6.heap.size v6 w9 := BU.out.trans (h5.below.mono BU.out.size)
                  have R : Hid (Below B w w9 ∧ B ≤ w9.heap.size ∧ Has w9 g ten 2) := Lib.hid ⟨B6.out.1.trans (q1.mono B6.out.2), by have := q1.size; have := B6.out.2; omega, G6.out.below q1 G6.out.lt⟩
                  clear q1 h1 h2 h3 h4 h5
                  go_wp2
                  go_roundw
                  case rel => exact ⟨r + 1, by omega, by go_num, R.out.1, R.out.2.1, R.out.2.2⟩
                  case measure => simp [intOf]; omega
            · have o3 : ¬ (r : Int) < 10 := by omega
              clear hG
              go_wp2
              go_roundw
              case rel => exact ⟨p + 1, by omega, by go_num, B6.out.1, B6.out.2, G6.out⟩
              case measure => simp [intOf]; omega
        · have o2 : ¬ (p : Int) < 10 := by omega
          go_wp2_with fail
          go_loopw [10] (fun i wr => ∃ n : Nat, n ≤ 9 ∧ i = .int .i64 n ∧ Below B w wr ∧ B ≤ wr.heap.size) (fun i _ => 9 - (intOf i).toNat)
          case atStart => exact ⟨0, by omega, rfl, B5.out.1, B5.out.2.1⟩
          case round =>
            clear B5
            obtain ⟨n, hn, rfl, hb, hs⟩ := hrel
            rename World => v7
            have B7 := Lib.hid (And.intro hb hs)
            clear hb hs
            by_cases hln : n < 9
            · have mk := make_pts (n := n) (by omega)
              obtain ⟨W, hW⟩ : ∃ W, v7.alloc (.cells (zer n) 35) = W := ⟨_, rfl⟩
              obtain ⟨g7, hg7⟩ : ∃ g, v7.heap.size = g := ⟨_, rfl⟩
              obtain ⟨c, hc⟩ : ∃ c : Bool, ((n : Int) % 2 == 0) = c := ⟨_, rfl⟩
              have O7 : Pown W B (.slice (some ⟨g7, 0, none⟩) n n) (List.replicate n default) := by rw [← hW]; exact own_made (by omega) B7.out.2 hg7
              have SA := Lib.hid (l8_same 0 0 0 0 0 0 c (O7.sl (by simp; omega)) O7.capOk')
              have BW : Hid (Below B w W ∧ B ≤ W.heap.size) := Lib.hid (by rw [← hW]; exact ⟨B7.out.1.alloc B7.out.2 _, by have := B7.out.2; simp; omega⟩)
              have HW := Lib.hid hW
              have o3 : (n : Int) < 9 := by omega
              clear hW O7
              go_wp2_with fail
              rw [HW.out]
              clear hg7 mk hc
              refine SA.out.mono ?_
              rintro e w8 ⟨rfl, hq8⟩
              have B8 : Hid (Below B w w8 ∧ B ≤ w8.heap.size) := Lib.hid ⟨BW.out.1.trans (hq8.mono BW.out.2), by have := hq8.size; have := BW.out.2; omega⟩
              clear hq8
              go_wp2
              go_roundw
              case rel => exact ⟨n + 1, by omega, by go_num, B8.out.1, B8.out.2⟩
              case measure => simp [intOf]; omega
            · have o3 : ¬ (n : Int) < 9 := by omega
              go_wp2_with fail
              refine (known8 _).mono ?_
              rintro e w8 ⟨rfl, hq8⟩
              have B8 : Hid (Below B w w8) := Lib.hid (B7.out.1.trans (hq8.mono B7.out.2))
              clear hq8
              go_wp2
              go_ret
              exact ⟨rfl, by rw [HB.out]; exact B8.out⟩

end Go.Proofs.Ytegckonhfdlbbaa

namespace Go.Proofs.Ytegckonhfdlbbaa.flatNumbers
open Go.ChangeShapes Go.WideShapes Go.ChangeAt Go.RowKit

theorem post_below {H : Type} {enc : TypeId × Value → H} {P : Program} {f : Func} {s : ChangeSpec} {apart fresh handsOn : Bool} {W V : World} {args : Array Value} {v : Value} {ds gs : List (DataW H)} {before pa pv : List MemPlace}
    (hW : DataW.Whole enc P f.params.toList s.vars apart W args.toList ds gs before)
    (hres : ∀ (b : Nat) (sp : Nat → Bool) (hd : Bool), DataW.TrodAll enc P V b sp hd f.resultTypes.toList (v.resultList f.resultTypes.size) (s.fn H (ds ++ gs)).results [])
    (hargs : ∀ sp : Nat → Bool, (∀ p ∈ before, sp p.block = true) → DataW.TrodAll enc P V 0 sp true f.params.toList args.toList (s.fn H (ds ++ gs)).args pa)
    (hvars : ∀ sp : Nat → Bool, (∀ p ∈ before, sp p.block = true) → DataW.TrodVars enc P V sp s.vars (s.fn H (ds ++ gs)).vars pv)
    (hps : before = pa ++ pv) (hb : Below W.heap.size W V) : s.post enc P f apart fresh handsOn false W args v V := by
  have hl : ∀ p ∈ before, (fun b => decide (b < W.heap.size)) p.block = true := fun p hp => by simpa using hW.lt p hp
  refine ⟨ds, gs, before, [], pa, pv, hW, hres _ _ _, hargs _ hl, hvars _ hl, World.keptBut_mono (fun p hp => ⟨hp, ?_⟩) (hb.frame (· ∈ before)), fun h => by cases h⟩
  rw [hps, List.mem_append] at hp
  exact Or.inr hp

theorem own : ownKnob Try.prog.godebug = none := by kernel_rfl

set_option maxRecDepth 100000 in
theorem lifted (os : Os) (started : os.Started) (H : Type) (enc : TypeId × Value → H) :
    ReturnsInHanded {} Try.checked os 3 .any (Rows.flatNumbersSpec.pre6 enc Try.prog Try.f3 Rows.flatNumbersRow.domain false) (Rows.flatNumbersSpec.post enc Try.prog Try.f3 false true false false) := by
  refine returnsInHanded_of_change (C := Try.checked) own started (by kernel_rfl) Try.func3
    (ChangeSpec.witness6 (enc := enc) (C := Try.checked) false ⟨#[], #[], []⟩ 8 (by kernel_rfl) (by kernel_rfl) (by kernel_rfl) (by kernel_rfl)) ?_
  intro W base args ds gs before hval0 hW hcnd _
  have hval : ∀ (j : Nat) t v, Try.f3.params[j]? = some t → args[j]? = some v → Value.okWide Try.prog W .any base t v := hval0
  have hW' := hW
  obtain ⟨p, q, hA0, hV, rfl, hfz, hnd⟩ := hW
  have hA : DataW.TrodAll enc Try.prog W 0 (fun _ => true) true Try.f3.params.toList args.toList ds p := hA0
  rw [Try.params3] at hA hval
  obtain ⟨rfl, rfl, rfl⟩ := trodAll_none hA
  obtain ⟨rfl, rfl⟩ := trodVars_none hV
  clear hA0 hval0
  simp only [List.append_nil] at hW'
  refine (flatNumbers_walk W).mono fun e W' ⟨he, hg⟩ => ?_
  subst he
  exact ⟨_, rfl, post_below (pa := []) (pv := []) hW' (fun _ _ _ => (trodAll_cons_mk (shut_bool Try.underlying4 _) trodAll_mk0)) (fun sp _ => rfl) (fun _ _ => rfl) rfl hg⟩

theorem over : Rows.flatNumbersRow.holds Try.pinned (OpenSpec.ofChange Rows.flatNumbersSpec) :=
  OpenClaim.holds_of_wide 3 Try.f3 rfl rfl rfl rfl rfl rfl rfl ⟨rfl, rfl, rfl, rfl, rfl⟩ rfl rfl rfl rfl rfl (by kernel_rfl) Try.func3 (by kernel_rfl)
    (of_decide_eq_true (by kernel_rfl)) (by unfold Func.isWrapper; first | (rw [if_pos (by decide +kernel)]; kernel_rfl) | (rw [if_neg (by decide +kernel)]; exact ⟨rfl, rfl⟩))
    (fun os started H enc _ => lifted os started H enc)

end Go.Proofs.Ytegckonhfdlbbaa.flatNumbers
namespace Go.Proofs.Ytegckonhfdlbbaa
theorem flatNumbers_holds : Rows.FlatNumbersSaid := flatNumbers.over
#print axioms flatNumbers_holds
end Go.Proofs.Ytegckonhfdlbbaa
