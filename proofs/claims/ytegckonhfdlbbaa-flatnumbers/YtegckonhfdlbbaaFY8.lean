/- Contract of flat.Map: for all maps and lists of polys what the plain arithmetic says, in memory of its own; of the memory nothing that was there turns. -/
import Derived.Test.YtegckonhfdlbbaaY8
namespace Go.Proofs.Ytegckonhfdlbbaa
open Go Go.RowKit
open M

/-- The value v is a poly whose list is of the call's own. -/
def PolyV (base : Nat) (c : Bool) (ps : List Pt) (v : Value) (w : World) : Prop := ∃ l, v = .agg #[.bool c, l] ∧ Psl w l ps ∧ (∀ k, l.ownBlock = some k → base ≤ k) ∧ ∃ ao n cap, l = .slice ao n cap
theorem PolyV.stay {base : Nat} {c : Bool} {ps : List Pt} {v : Value} {w w' : World} (h : PolyV base c ps v w) (hb : Below w.heap.size w w') : PolyV base c ps v w' := by
  obtain ⟨l, e, hp, hk, hs⟩ := h
  exact ⟨l, e, hp.below hb (Nat.le_refl _), hk, hs⟩
theorem mapL_len (a b c d e f : Int) (ps : List Pt) : (mapL a b c d e f ps).length = ps.length := by simp [mapL]

set_option maxRecDepth 100000 in
set_option maxHeartbeats 2000000 in
theorem f_Map (ma mb mc md me mf : Int) {v : Value} {ys : List Po} {w : World} (h : Ysl w v ys) :
    Calls Try.prog 18 #[.agg (mCells ma mb mc md me mf), v] w (GivesY w ys.length (fun j => ((po ys j).cl, mapL ma mb mc md me mf (po ys j).ps))) := by
  obtain ⟨B, hB⟩ : ∃ B, w.heap.size = B := ⟨_, rfl⟩
  obtain ⟨w1, hW⟩ : ∃ W, w.alloc (.cells (mCells ma mb mc md me mf) 32) = W := ⟨_, rfl⟩
  have ha : Has w1 B (mCells ma mb mc md me mf) 32 := by rw [← hW]; exact has_new hB
  have hbl : Below w.heap.size w w1 := by rw [← hW]; exact (Below.refl _ _).alloc (Nat.le_refl _) _
  have hsz : w1.heap.size = B + 1 := by rw [← hW]; simp [hB]
  have hs1 := h.below hbl
  obtain ⟨ao, cap, rfl, hf, _⟩ := h
  obtain ⟨N, hN⟩ : ∃ N, ys.length = N := ⟨_, rfl⟩
  rw [hN] at hf hs1 ⊢
  obtain ⟨f, hff⟩ : ∃ f : Nat → Bool × List Pt, (fun j => ((po ys j).cl, mapL ma mb mc md me mf (po ys j).ps)) = f := ⟨_, rfl⟩
  rw [hff]
  have mk := make_ys (n := N) hf
  obtain ⟨W2, hW2⟩ : ∃ W, w1.alloc (.cells (zeY N) 43) = W := ⟨_, rfl⟩
  have F0 : Yfill w1 (B + 1) N f 0 (List.replicate N default) W2 := by
    rw [← hW2]
    exact ⟨by simp, by rw [← zeY_yls]; exact has_new hsz, fun j hj => by omega, (Below.refl _ _).alloc (Nat.le_refl _) _, by omega⟩
  have HN := Lib.hid hN
  have HB := Lib.hid hB
  have HW := Lib.hid hW
  have HW2 : Hid ((w.alloc (.cells (mCells ma mb mc md me mf) 32)).alloc (.cells (zeY N) 43) = W2) := Lib.hid (by rw [hW]; exact hW2)
  have HA := Lib.hid ha
  have HBL := Lib.hid hbl
  have HSZ := Lib.hid hsz
  have HS1 := Lib.hid hs1
  have HF0 := Lib.hid F0
  have HFF := Lib.hid hff
  clear hW hW2 ha hbl hN hsz hs1 F0 hff
  go_enter Try.func18, Try.ntmps18
  go_wp2
  rw [HW2.out]
  clear hB mk
  go_loopw [6, 12] (fun _ i wr => ∃ (n : Nat) (zs : List Po), n ≤ N ∧ i = .int .i64 n ∧ Yfill w1 (B + 1) N f n zs wr) (fun _ i _ => N - (intOf i).toNat)
  case atStart => exact ⟨0, _, by omega, rfl, HF0.out⟩
  case round =>
    clear HF0 HW2 HW
    obtain ⟨n, zs, hn, rfl, hfl⟩ := hrel
    have HFL := Lib.hid hfl
    have hb := hfl.below
    by_cases hlt : n < N
    · obtain ⟨g, o, e1, r0, l0⟩ := HS1.out.row (by omega)
      subst e1
      have r := r0.below hb (by omega)
      have ka := HA.out.below hb HA.out.lt
      have hf1 : f n = ((po ys n).cl, mapL ma mb mc md me mf (po ys n).ps) := by rw [← HFF.out]
      have hsl := r.sl n (by omega)
      obtain ⟨y, hy⟩ : ∃ y, po ys n = y := ⟨_, rfl⟩
      have c0 := r.c0 n (by omega)
      have c1 := r.c1 n (by omega)
      rw [hy] at c0 c1 hsl hf1
      obtain ⟨c, vy, ps⟩ := y
      simp only at c0 c1 hsl hf1
      have hlen : ps.length ≤ 1000 := hsl.few
      have YC : Hid (∀ (R : World → Prop) (z : LaterR wr R), z.to.cell? ⟨g, o + n * 2, none⟩ = some (.bool c) ∧ z.to.cell? ⟨g, o + n * 2 + 1, none⟩ = some vy) := Lib.hid (fun R z => ⟨(z.below.cell (p := ⟨g, _, _⟩) (World.block_lt_of_cell? wr _ c0)).trans c0, (z.below.cell (p := ⟨g, _, _⟩) (World.block_lt_of_cell? wr _ c1)).trans c1⟩)
      have KA := Lib.hid ka
      have SL := Lib.hid hsl
      have F1 := Lib.hid hf1
      have HLE := Lib.hid hlen
      obtain ⟨aoy, ny, capy, evy⟩ : ∃ ao n cap, vy = .slice ao n cap := by obtain ⟨ao, cap, hv, _⟩ := hsl; exact ⟨_, _, _, hv⟩
      subst evy
      have o3 : (n : Int) < N := by omega
      have o4 : n < N := hlt
      clear r r0 l0 ka hy hb hfl hsl hf1 c0 c1 hlen
      go_upto_region 5 with fail
      refine wp_region_gen 8 [7] [] [0, 0, 0, 0, 0, 0, 0, 1] (by kernel_rfl) (by kernel_rfl) (fun c a d v w h => by cases d <;> exact h) trivial (fun G w' => ∀ v, G 7 = some v → PolyV wr.heap.size c (mapL ma mb mc md me mf ps) v w') (fun G w w' h hb v hv => (h v hv).stay hb) (fun v hv => by cases hv) ?_
      apply Exists.intro
      refine ⟨fun R hR hN => ?_, ?_, ?_⟩
      · have m0 := fun z => LaterR.read (R := R) KA.out 0 _ rfl z
        have m1 := fun z => LaterR.read (R := R) KA.out 1 _ rfl z
        have m2 := fun z => LaterR.read (R := R) KA.out 2 _ rfl z
        have m3 := fun z => LaterR.read (R := R) KA.out 3 _ rfl z
        have m4 := fun z => LaterR.read (R := R) KA.out 4 _ rfl z
        have m5 := fun z => LaterR.read (R := R) KA.out 5 _ rfl z
        have y0 := fun z => (YC.out R z).1
        have y1 := fun z => (YC.out R z).2
        simp only [quietL, takeA]
        repeat (go_big_quiet_step (fail))
        exact wpQuiet_nil rfl
      · intro i oo hi ho
        obtain rfl : i = 7 := by simpa using hi
        cases ho
        intro G w' hG hGn hdep hb hR
        refine ⟨rfl, gives_none (by kernel_rfl) hGn ?_⟩
        unfold gives
        simp [go_sem]
        refine (f_mapped ma mb mc md me mf c (SL.out.below hb (Nat.le_refl _))).mono ?_
        intro r w'' hg
        obtain ⟨l, e, hp, hk, hs, hbb⟩ := hg.agg (by rw [mapL_len]; exact HLE.out)
        exact ⟨_, e, hb.trans (hbb.mono hb.size), fun v hv => by rw [updV_eq] at hv; cases hv; exact ⟨l, rfl, hp, fun k hkk => Nat.le_trans hb.size (hk k hkk), hs⟩⟩
      · intro G w' hb hR hG hN
        obtain ⟨v7, e7⟩ := hG 7 (by simp)
        obtain ⟨l, rfl, hp, hk, ⟨al, nl, cl, rfl⟩⟩ := hR v7 e7
        have nn : ∀ j, j < 7 → G j = none := fun j hj => hN j (by simp; omega)
        simp only [putV, dstAt, e7, nn 0 (by decide), nn 1 (by decide), nn 2 (by decide), nn 3 (by decide), nn 4 (by decide), nn 5 (by decide), nn 6 (by decide), List.drop_succ_cons, List.drop_zero, List.getElem?_cons_succ, List.getElem?_cons_zero, Option.bind_some]
        have FL := HFL.out.later hb
        have q0 : w'.cell? ⟨B + 1, n * 2, none⟩ = some (.bool (po zs n).cl) := FL.has.cell (n * 2) _ (by have := yls_at (ys := zs) (i := n) (j := 0) (by rw [FL.len]; exact hlt) (by decide); simpa [yl] using this)
        have q1 : w'.cell? ⟨B + 1, n * 2 + 1, none⟩ = some (po zs n).v := FL.has.cell (n * 2 + 1) _ (by have := yls_at (ys := zs) (i := n) (j := 1) (by rw [FL.len]; exact hlt) (by decide); simpa [yl] using this)
        have fz := has_fro FL.has
        have S := Lib.hid (FL.step hlt F1.out hp (fun e => by have := hk _ e; have := HFL.out.has.lt; omega))
        clear hb hR hG hN nn e7 hp hk FL
        go_wp2
        go_roundw
        case rel => exact ⟨n + 1, _, by omega, by go_num, S.out⟩
        case measure => simp [intOf]; omega
    · obtain rfl : n = N := by omega
      have R : Hid (GivesY w n f (.returned (.slice (some ⟨B + 1, 0, none⟩) n n)) wr) := Lib.hid ⟨_, zs, rfl, ysl_has hfl.len hf (fun i hi => (hfl.told i (by have := hfl.len; omega)).2.1) hfl.has, hfl.len, fun j hj => (hfl.told j hj).1, HBL.out.trans (hb.mono (by have := HSZ.out; have := HB.out; omega))⟩
      have o3 : ¬ (n : Int) < n := by omega
      clear hfl hb
      go_wp2
      go_ret
      exact R.out

end Go.Proofs.Ytegckonhfdlbbaa
