/- Contracts of arc.Part and of the reference's Part: for all polys what the plain arithmetic says, in memory of the call's own; of the memory nothing that was there turns. -/
import Derived.Test.YtgnmiilmmbblmaaN3
import Derived.Test.YtgnmiilmmbblmaaAP8
import Derived.Test.YtgnmiilmmbblmaaVar
import Derived.Test.YtgnmiilmmbblmaaPM
namespace Go.Proofs.Ytgnmiilmmbblmaa
open Go Go.RowKit
open M

/-- A part that grows: in block go, its list in blocks behind it; the result's block is r, the poly's own is q. -/
structure Cutt (w1 : World) (q r go : Nat) (c : Bool) (vp : Value) (rs : List Pt) (l : Value) (wr : World) : Prop where
  own : Pown wr (go + 1) l rs
  out : Has wr go #[.bool false, l] 24
  res : Has wr r #[.bool false, .slice none 0 0] 24
  src : Has wr q #[.bool c, vp] 24
  below : Below w1.heap.size w1 wr
  lq : w1.heap.size ≤ q
  lr : q < r
  lo : r < go
section
variable {w1 W w' : World} {q r go : Nat} {c : Bool} {rs qs : List Pt} {vp l l' : Value}
theorem Cutt.later (h : Cutt w1 q r go c vp rs l W) (hq : Below W.heap.size W w') : Cutt w1 q r go c vp rs l w' :=
  ⟨h.own.below hq (Nat.le_refl _), h.out.below hq h.out.lt, h.res.below hq h.res.lt, h.src.below hq h.src.lt, h.below.trans (hq.mono h.below.size), h.lq, h.lr, h.lo⟩
theorem Cutt.away (h : Cutt w1 q r go c vp rs l W) : l.ownBlock ≠ some go ∧ l.ownBlock ≠ some r ∧ l.ownBlock ≠ some q := ⟨fun e => by have := (h.own.base go e).1; omega, fun e => by have := (h.own.base r e).1; have := h.lo; omega, fun e => by have := (h.own.base q e).1; have := h.lo; have := h.lr; omega⟩
/-- The list has grown, and is stored. -/
theorem Cutt.put (h : Cutt w1 q r go c vp rs l W) (ho : Pown w' (go + 1) l' qs) (hg : W.grownBy w' l.ownBlock) : Cutt w1 q r go c vp qs l' (w'.setCell ⟨go, 1, none⟩ l') := by
  have hk : Has w' go #[.bool false, l] 24 := (hg.block go h.out.lt (fun e => h.away.1 e.symm)).trans h.out
  have hr : Has w' r #[.bool false, .slice none 0 0] 24 := (hg.block r h.res.lt (fun e => h.away.2.1 e.symm)).trans h.res
  have hq : Has w' q #[.bool c, vp] 24 := (hg.block q h.src.lt (fun e => h.away.2.2 e.symm)).trans h.src
  have hs := h.below.size
  have h1 := h.lr
  have h0 := h.lq
  have h2 := h.lo
  refine ⟨ho.kept (grownBy_set (World.grownBy.refl _ _) _ _) (fun k hk e => by simp at hk; have := (ho.base k e).1; omega), ?_, has_grown hr (grownBy_set (World.grownBy.refl _ _) _ _) (by omega), has_grown hq (grownBy_set (World.grownBy.refl _ _) _ _) (by omega), ?_, h0, h1, h2⟩
  · have := has_set hk 1 l'
    simpa using this
  · exact (h.below.grown hg (by omega) (fun k e => by have := (h.own.base k e).1; omega)).setCell (show w1.heap.size ≤ go by omega) _
theorem Cutt.fine (h : Cutt w1 q r go c vp rs l W) (hg : W.grownBy w' l.ownBlock) : w'.cell? ⟨go, 1, none⟩ = some l ∧ w'.frozen? ⟨go, 1, none⟩ = false := by
  have hk : Has w' go #[.bool false, l] 24 := (hg.block go h.out.lt (fun e => h.away.1 e.symm)).trans h.out
  exact ⟨hk.cell 1 _ rfl, has_fro hk 1⟩
/-- A block that is neither the list's nor the poly's stays where the list grows. -/
theorem Cutt.keep (hg : W.grownBy w' l.ownBlock) {k : Nat} {cs : Array Value} {t : TypeId} (hk : Has W k cs t) (hne : l.ownBlock ≠ some k) (hgo : k ≠ go) (l' : Value) : Has (w'.setCell ⟨go, 1, none⟩ l') k cs t :=
  has_grown ((hg.block k hk.lt (fun e => hne e.symm)).trans hk) (grownBy_set (World.grownBy.refl _ _) _ _) hgo
end
/-- The value v is a list of this place alone, in a block of the call's own. -/
def OneP (base : Nat) (p : Pt) (v : Value) (w : World) : Prop := ∃ g, v = .slice (some ⟨g, 0, none⟩) 1 1 ∧ base ≤ g ∧ Has w g (pCells p) 31
theorem OneP.stay {base : Nat} {p : Pt} {v : Value} {w w' : World} (h : OneP base p v w) (hb : Below w.heap.size w w') : OneP base p v w' := by
  obtain ⟨g, e, l, k⟩ := h
  exact ⟨g, e, l, k.below hb k.lt⟩

set_option maxRecDepth 100000 in
set_option maxHeartbeats 4000000 in
theorem a_part (c : Bool) {v : Value} {ps : List Pt} {w : World} (f t : Int) (h : Psl w v ps) (h900 : ps.length ≤ 8796093022000) :
    Calls Try.prog 24 #[.agg #[.bool c, v], .int .i64 f, .int .i64 t] w (Gives w false (cutL c ps f t)) := by
  obtain ⟨B, hB⟩ : ∃ B, w.heap.size = B := ⟨_, rfl⟩
  obtain ⟨W, hW⟩ : ∃ W, ((w.alloc (.cells #[.bool c, v] 24)).alloc (.cells #[.bool false, .slice none 0 0] 24)).alloc (.cells #[.bool false, .slice none 0 0] 24) = W := ⟨_, rfl⟩
  have ha : Has W B #[.bool c, v] 24 := by rw [← hW]; exact ((has_new hB).alloc _).alloc _
  have hr : Has W (B + 1) #[.bool false, .slice none 0 0] 24 := by rw [← hW]; exact (has_new (by simp [hB])).alloc _
  have ho : Has W (B + 1 + 1) #[.bool false, .slice none 0 0] 24 := by rw [← hW]; exact has_new (by simp [hB])
  have hbl : Below w.heap.size w W := by rw [← hW]; exact (((Below.refl _ _).alloc (by omega) _).alloc (by simp) _).alloc (by simp; omega) _
  have hsz : W.heap.size = B + 1 + 1 + 1 := by rw [← hW]; simp [hB]
  have hs := h
  obtain ⟨ao, cap, rfl, hf, _⟩ := h
  obtain ⟨N, hN⟩ : ∃ N, ps.length = N := ⟨_, rfl⟩
  obtain ⟨M, hM⟩ : ∃ M, sidesN c N = M := ⟨_, rfl⟩
  have hMN : M ≤ N := hM ▸ sidesN_le c N
  rw [hN] at hf hs ha hW h900 ⊢
  have SD : Hid (∀ w : World, Calls Try.prog 34 #[.agg #[.bool c, .slice ao N cap]] w fun r w' => r = .returned (.int .i64 (M : Int)) ∧ Below w.heap.size w w') := Lib.hid (fun w => by have := a_sides c ao N cap hf w; rw [hM] at this; exact this)
  have EL : Hid (¬ hold t ≤ hold f → cutL c ps f t = cutN ps (hold f) (hold t) M) := Lib.hid (fun h => by rw [cutL_yes h, hN, hM])
  have EN : Hid (hold t ≤ hold f → cutL c ps f t = []) := Lib.hid (fun h => cutL_no h)
  have HA := Lib.hid ha
  have HR := Lib.hid hr
  have HO := Lib.hid ho
  have HBL := Lib.hid hbl
  have HS := Lib.hid hs
  have HW := Lib.hid hW
  have HN := Lib.hid hN
  have HB := Lib.hid hB
  have HSZ := Lib.hid hsz
  have f0 := hold_lo f
  have f1 := hold_hi f
  have t0 := hold_lo t
  have t1 := hold_hi t
  obtain ⟨R, hR⟩ : ∃ R, cutL c ps f t = R := ⟨_, rfl⟩
  rw [hR] at EL EN ⊢
  obtain ⟨F, hF⟩ : ∃ F, hold f = F := ⟨_, rfl⟩
  obtain ⟨T, hT⟩ : ∃ T, hold t = T := ⟨_, rfl⟩
  rw [hF] at f0 f1 EL EN
  rw [hT] at t0 t1 EL EN
  have QF : Hid (∀ w, Calls Try.prog 37 #[.int .i64 f] w fun e w' => e = .returned (.int .i64 F) ∧ w = w') := Lib.hid (fun w => hF ▸ q_hold f w)
  have QT : Hid (∀ w, Calls Try.prog 37 #[.int .i64 t] w fun e w' => e = .returned (.int .i64 T) ∧ w = w') := Lib.hid (fun w => hT ▸ q_hold t w)
  clear ha hr ho hbl hs hW hN hM hsz hR hF hT
  have r0 := HR.out.cell 0 _ rfl
  have r1 := HR.out.cell 1 _ rfl
  have o0 := HO.out.cell 0 _ rfl
  have o1 := HO.out.cell 1 _ rfl
  have fr := has_fro HR.out
  by_cases hft : T ≤ F
  · have RR : Gives w false R (.returned (.agg #[.bool false, .slice none 0 0])) ((W.setCell ⟨B + 1, 0, none⟩ (.bool false)).setCell ⟨B + 1, 1, none⟩ (.slice none 0 0)) := by
      rw [EN.out hft]
      exact gives_put (w := w) HB.out (Pown.nil _ _) (by simp [Value.ownBlock]) (by omega) (HB.out ▸ HBL.out) rfl _ _ rfl
    have RRH := Lib.hid RR
    clear RR
    go_enter Try.func24, Try.ntmps24
    go_wp2_with fail
    refine (QF.out _).mono ?_
    rintro e w' ⟨rfl, rfl⟩
    go_wp2_with fail
    refine (QT.out _).mono ?_
    rintro e w' ⟨rfl, rfl⟩
    go_upto_region 3 with fail
    rw [HW.out]
    clear hB
    go_wp2
    refine bodyPost_ret (v := .agg #[.bool false, .slice none 0 0]) (by simp [results, Try.results24, go_sem, r0, r1]) rfl ?_
    exact RRH.out
  · have hft' : F < T := by omega
    have ER := Lib.hid (EL.out hft)
    clear EL EN hft
    have C0 : Hid (Cutt w B (B + 1) (B + 1 + 1) c (.slice ao N cap) [] (.slice none 0 0) W) := Lib.hid ⟨Pown.nil _ _, HO.out, HR.out, HA.out, HBL.out, by rw [HB.out]; omega, by omega, by omega⟩
    have a0 := HA.out.cell 0 _ rfl
    have a1 := HA.out.cell 1 _ rfl
    go_enter Try.func24, Try.ntmps24
    go_wp2_with fail
    refine (QF.out _).mono ?_
    rintro e w' ⟨rfl, rfl⟩
    go_wp2_with fail
    refine (QT.out _).mono ?_
    rintro e w' ⟨rfl, rfl⟩
    go_upto_region 3 with fail
    rw [HW.out]
    clear hB
    go_wp2_with fail
    refine (SD.out _).mono ?_
    rintro e w1 ⟨rfl, hq1⟩
    have C1 := Lib.hid (C0.out.later hq1)
    clear hq1 a0 a1 r0 r1 o0 o1 fr
    go_wp2_with fail
    go_loopw [8, 23] (fun s i wr => ∃ (n : Nat) (l : Value), n ≤ M ∧ s = .int .i64 (lenN ps n) ∧ i = .int .i64 n ∧ Cutt w B (B + 1) (B + 1 + 1) c (.slice ao N cap) (cutN ps F T n) l wr) (fun _ i _ => M - (intOf i).toNat)
    case atStart => exact ⟨0, _, by omega, by rw [lenN_zero], rfl, by rw [cutN_zero]; exact C1.out⟩
    case round =>
      obtain ⟨n, l, hn, rfl, rfl, hG⟩ := hrel
      have GH := Lib.hid hG
      have c0 := hG.src.cell 0 _ rfl
      have c1 := hG.src.cell 1 _ rfl
      clear hG
      obtain ⟨si, si0, si1⟩ : Hid (0 ≤ lenN ps n ∧ lenN ps n ≤ 1099511627776) ∧ 0 ≤ lenN ps n ∧ lenN ps n ≤ 1099511627776 := ⟨Lib.hid (lenN_in ps n), (lenN_in ps n).1, (lenN_in ps n).2⟩
      obtain ⟨s, hs⟩ : ∃ s, lenN ps n = s := ⟨_, rfl⟩
      rw [hs] at si0 si1 ⊢
      clear si
      have es := Lib.hid hs
      clear hs
      by_cases hlt : n < M
      · have o3 : (n : Int) < M := by omega
        have o5 : (n : Int) ≤ 8796093022208 := by omega
        have GX := GH
        have SL := Lib.hid (HS.out.below GX.out.below (Nat.le_refl _))
        go_wp2_with fail
        refine (a_side c SL.out HN.out (by omega)).mono ?_
        rintro e w2 ⟨rfl, hq2⟩
        obtain ⟨len, hl⟩ : ∃ l, sideL ps n = l := ⟨_, rfl⟩
        have l0 : 0 ≤ len := hl ▸ sideL_lo ps n
        have l1 : len ≤ 1518500249 := hl ▸ sideL_hi ps n
        have AL := Lib.hid (fun w => a_long (sa ps n) (sb ps n) w (pld_plc _) (pld_plc _))
        rw [show longP (sa ps n) (sb ps n) = len from hl] at AL
        obtain ⟨pa, ha⟩ : ∃ p, sa ps n = p := ⟨_, rfl⟩
        obtain ⟨pb, hb⟩ : ∃ p, sb ps n = p := ⟨_, rfl⟩
        rw [ha, hb] at AL ⊢
        obtain ⟨G, hG⟩ : ∃ G, w2.heap.size = G := ⟨_, rfl⟩
        obtain ⟨V, hV⟩ : ∃ V, (w2.alloc (.cells (pCells pa) 31)).alloc (.cells (pCells pb) 31) = V := ⟨_, rfl⟩
        have kA : Has V G (pCells pa) 31 := by rw [← hV]; exact (has_new hG).alloc _
        have kB : Has V (G + 1) (pCells pb) 31 := by rw [← hV]; exact has_new (by simp [hG])
        have bV : Below wr.heap.size wr V := by rw [← hV]; exact (hq2.alloc hq2.size _).alloc (by have := hq2.size; simp; omega) _
        have GA : Hid (l.ownBlock ≠ some G ∧ l.ownBlock ≠ some (G + 1)) := Lib.hid ⟨fun e => by have := (GX.out.own.base G e).2; have := hq2.size; omega, fun e => by have := (GX.out.own.base (G + 1) e).2; have := hq2.size; omega⟩
        have GO : Hid (B + 1 + 1 < G) := Lib.hid (by have := GX.out.out.lt; have := hq2.size; omega)
        have KA := Lib.hid kA
        have KB := Lib.hid kB
        have BV := Lib.hid bV
        have HV := Lib.hid hV
        have EL2 := Lib.hid hl
        have EA := Lib.hid ha
        have EB := Lib.hid hb
        clear hq2 hl ha hb c0 c1 kA kB bV hV
        go_wp2_with fail
        rw [HV.out]
        refine (AL.out _).mono ?_
        rintro e w3 ⟨rfl, hq3⟩
        have ZA := Lib.hid (KA.out.below hq3 KA.out.lt)
        have ZB := Lib.hid (KB.out.below hq3 KB.out.lt)
        have GZ := Lib.hid ((GX.out.later BV.out).later hq3)
        obtain ⟨rs, hrs⟩ : ∃ rs, cutN ps F T n = rs := ⟨_, rfl⟩
        have HRS := Lib.hid hrs
        rw [hrs] at GZ
        obtain ⟨LN, hLN⟩ : ∃ k, rs.length = k := ⟨_, rfl⟩
        have hl9 : LN ≤ 8796093022010 := by rw [← hLN, ← hrs]; have := cutN_length ps F T n; omega
        have HLN := Lib.hid hLN
        obtain ⟨aol, capl, hv⟩ := GZ.out.own.len
        rw [hLN] at hv
        subst hv
        have FP : Hid (∀ x, fromP ps x n = onP pa pb (x - s) len) := Lib.hid (fun x => by unfold fromP; rw [EA.out, EB.out, es.out, EL2.out])
        have HT : Hid (hit ps F T n ↔ (0 < len ∧ F < s + len ∧ s < T)) := Lib.hid (by unfold hit; rw [es.out, EL2.out])
        clear hq3 GX BV HV KA KB hrs hLN AL EA EB
        skip
        by_cases hh : 0 < len ∧ F < s + len ∧ s < T
        · have HIT := Lib.hid (HT.out.2 hh)
          obtain ⟨h1, h2, h3⟩ := hh
          skip
          have x1 := GZ.out.out.cell 1 _ rfl
          by_cases hz : LN = 0
          · have hz' : (LN : Int) = 0 := by omega
            go_upto_region 13 with fail
            have HZ := Lib.hid hz
            clear hz hz'
            refine wp_region_gen 10 [9] [] [0, 0, 0, 0, 0, 0, 0, 0, 0, 1] (by kernel_rfl) (by kernel_rfl) (fun c a d v w h => by cases d <;> exact h) trivial (fun Gm w' => ∀ v, Gm 9 = some v → OneP w3.heap.size (onP pa pb (F - s) len) v w') (fun Gm w w' h hb v hv => (h v hv).stay hb) (fun v hv => by cases hv) ?_
            apply Exists.intro
            refine ⟨fun R hR hN => ?_, ?_, ?_⟩
            · have y1 := fun z => LaterR.read (R := R) GZ.out.out 1 _ rfl z
              have A0 := fun z => LaterR.read (R := R) ZA.out 0 _ rfl z
              have A1 := fun z => LaterR.read (R := R) ZA.out 1 _ rfl z
              have B0 := fun z => LaterR.read (R := R) ZB.out 0 _ rfl z
              have B1 := fun z => LaterR.read (R := R) ZB.out 1 _ rfl z
              simp only [quietL, takeA]
              repeat (go_big_quiet_step (first | (go_at_call 38; exact LaterR.calls hR (a_on _ _ _ _ _))))
              exact wpQuiet_nil rfl
            · intro i oo hi ho
              obtain rfl : i = 9 := by simpa using hi
              cases ho
              intro Gm w' hG hGn hdep hb hR
              refine ⟨rfl, gives_none (by kernel_rfl) hGn ?_⟩
              unfold gives
              simp [go_sem]
              refine ⟨hb.alloc hb.size _, fun v hv => ?_⟩
              rw [updV_eq] at hv
              cases hv
              exact ⟨_, rfl, hb.size, has_new0⟩
            intro Gm w' hb hR hG hN
            obtain ⟨v9, e9⟩ := hG 9 (by simp)
            obtain ⟨gp, rfl, lp, kp⟩ := hR v9 e9
            have nn : ∀ j, j < 9 → Gm j = none := fun j hj => hN j (by simp; omega)
            simp only [putV, dstAt, e9, nn 0 (by decide), nn 1 (by decide), nn 2 (by decide), nn 3 (by decide), nn 4 (by decide), nn 5 (by decide), nn 6 (by decide), nn 7 (by decide), nn 8 (by decide), List.drop_succ_cons, List.drop_zero, List.getElem?_cons_succ, List.getElem?_cons_zero, Option.bind_some]
            have GY := Lib.hid (GZ.out.later hb)
            have YA := Lib.hid (ZA.out.below hb ZA.out.lt)
            have YB := Lib.hid (ZB.out.below hb ZB.out.lt)
            have PR : Hid (Prow w' gp 0 [onP pa pb (F - s) len]) := Lib.hid (prow_has (cs := pCells (onP pa pb (F - s) len)) (by simp) kp rfl)
            have SY : Hid (B + 1 + 1 + 1 ≤ w'.heap.size) := Lib.hid (by have := GY.out.out.lt; omega)
            have L1 : Hid (LN + 1 ≤ 8796093022208) := Lib.hid (by omega)
            clear hb hR hG hN nn e9 kp GZ ZA ZB x1
            go_wp2_with (at_builtin; refine wpList_append_pl rfl _ _ rfl (LN) HLN.out rfl gp 0 1 1 rfl [onP pa pb (F - s) len] rfl (by decide) L1.out PR.out GY.out.own SY.out ?_)
            intro g' cap' w4 ho hg hat
            have f0 := (GY.out.fine hg).1
            have f1 := (GY.out.fine hg).2
            obtain ⟨w5, hw5⟩ : ∃ w5, w4.setCell ⟨B + 1 + 1, 1, none⟩ (.slice (some ⟨g', 0, none⟩) (LN + 1) cap') = w5 := ⟨_, rfl⟩
            have GQ := Lib.hid (GY.out.put ho hg)
            have AQ := Lib.hid (Cutt.keep (go := B + 1 + 1) hg YA.out GA.out.1 (by have := GO.out; omega) (.slice (some ⟨g', 0, none⟩) (LN + 1) cap'))
            have BQ := Lib.hid (Cutt.keep (go := B + 1 + 1) hg YB.out GA.out.2 (by have := GO.out; omega) (.slice (some ⟨g', 0, none⟩) (LN + 1) cap'))
            rw [hw5] at GQ AQ BQ
            have GAQ : Hid (Value.ownBlock (.slice (some ⟨g', 0, none⟩) (LN + 1) cap') ≠ some G ∧ Value.ownBlock (.slice (some ⟨g', 0, none⟩) (LN + 1) cap') ≠ some (G + 1)) := Lib.hid (by
              have q1 := GA.out
              have q2 := YB.out.lt
              refine ⟨fun e => ?_, fun e => ?_⟩
              · have e' : some g' = some G := e
                simp at e'
                rcases hat with h | h
                · exact q1.1 (e' ▸ h)
                · omega
              · have e' : some g' = some (G + 1) := e
                simp at e'
                rcases hat with h | h
                · exact q1.2 (e' ▸ h)
                · omega)
            have HW5 := Lib.hid hw5
            clear ho hg hat hw5 GY YA YB PR SY L1 GA
            go_upto_region 14 with fail
            rw [HW5.out]
            clear f0 f1
            have GZ := GQ
            have ZA := AQ
            have ZB := BQ
            have GA := GAQ
            have x1 := GQ.out.out.cell 1 _ rfl
            clear GQ AQ BQ GAQ HW5
            have HLN0 := HLN
            have HLN : Hid ((rs ++ [onP pa pb (F - s) len]).length = LN + 1) := Lib.hid (by rw [List.length_append, HLN0.out]; rfl)
            refine wp_region_gen 10 [9] [] [0, 0, 0, 0, 0, 0, 0, 0, 0, 1] (by kernel_rfl) (by kernel_rfl) (fun c a d v w h => by cases d <;> exact h) trivial (fun Gm w' => ∀ v, Gm 9 = some v → OneP w5.heap.size (onP pa pb (T - s) len) v w') (fun Gm w w' h hb v hv => (h v hv).stay hb) (fun v hv => by cases hv) ?_
            apply Exists.intro
            refine ⟨fun R hR hN => ?_, ?_, ?_⟩
            · have y1 := fun z => LaterR.read (R := R) GZ.out.out 1 _ rfl z
              have A0 := fun z => LaterR.read (R := R) ZA.out 0 _ rfl z
              have A1 := fun z => LaterR.read (R := R) ZA.out 1 _ rfl z
              have B0 := fun z => LaterR.read (R := R) ZB.out 0 _ rfl z
              have B1 := fun z => LaterR.read (R := R) ZB.out 1 _ rfl z
              simp only [quietL, takeA]
              repeat (go_big_quiet_step (first | (go_at_call 38; exact LaterR.calls hR (a_on _ _ _ _ _))))
              exact wpQuiet_nil rfl
            · intro i oo hi ho
              obtain rfl : i = 9 := by simpa using hi
              cases ho
              intro Gm w' hG hGn hdep hb hR
              refine ⟨rfl, gives_none (by kernel_rfl) hGn ?_⟩
              unfold gives
              simp [go_sem]
              refine ⟨hb.alloc hb.size _, fun v hv => ?_⟩
              rw [updV_eq] at hv
              cases hv
              exact ⟨_, rfl, hb.size, has_new0⟩
            intro Gm w' hb hR hG hN
            obtain ⟨v9, e9⟩ := hG 9 (by simp)
            obtain ⟨gp, rfl, lp, kp⟩ := hR v9 e9
            have nn : ∀ j, j < 9 → Gm j = none := fun j hj => hN j (by simp; omega)
            simp only [putV, dstAt, e9, nn 0 (by decide), nn 1 (by decide), nn 2 (by decide), nn 3 (by decide), nn 4 (by decide), nn 5 (by decide), nn 6 (by decide), nn 7 (by decide), nn 8 (by decide), List.drop_succ_cons, List.drop_zero, List.getElem?_cons_succ, List.getElem?_cons_zero, Option.bind_some]
            have GY := Lib.hid (GZ.out.later hb)
            have YA := Lib.hid (ZA.out.below hb ZA.out.lt)
            have YB := Lib.hid (ZB.out.below hb ZB.out.lt)
            have PR : Hid (Prow w' gp 0 [onP pa pb (T - s) len]) := Lib.hid (prow_has (cs := pCells (onP pa pb (T - s) len)) (by simp) kp rfl)
            have SY : Hid (B + 1 + 1 + 1 ≤ w'.heap.size) := Lib.hid (by have := GY.out.out.lt; omega)
            have L1 : Hid (LN + 1 + 1 ≤ 8796093022208) := Lib.hid (by omega)
            clear hb hR hG hN nn e9 kp GZ ZA ZB x1
            go_wp2_with (at_builtin; refine wpList_append_pl rfl _ _ rfl (LN + 1) HLN.out rfl gp 0 1 1 rfl [onP pa pb (T - s) len] rfl (by decide) L1.out PR.out GY.out.own SY.out ?_)
            intro g' cap' w4 ho hg hat
            have f0 := (GY.out.fine hg).1
            have f1 := (GY.out.fine hg).2
            obtain ⟨w5, hw5⟩ : ∃ w5, w4.setCell ⟨B + 1 + 1, 1, none⟩ (.slice (some ⟨g', 0, none⟩) (LN + 1 + 1) cap') = w5 := ⟨_, rfl⟩
            have GQ := Lib.hid (GY.out.put ho hg)
            have AQ := Lib.hid (Cutt.keep (go := B + 1 + 1) hg YA.out GA.out.1 (by have := GO.out; omega) (.slice (some ⟨g', 0, none⟩) (LN + 1 + 1) cap'))
            have BQ := Lib.hid (Cutt.keep (go := B + 1 + 1) hg YB.out GA.out.2 (by have := GO.out; omega) (.slice (some ⟨g', 0, none⟩) (LN + 1 + 1) cap'))
            rw [hw5] at GQ AQ BQ
            have GAQ : Hid (Value.ownBlock (.slice (some ⟨g', 0, none⟩) (LN + 1 + 1) cap') ≠ some G ∧ Value.ownBlock (.slice (some ⟨g', 0, none⟩) (LN + 1 + 1) cap') ≠ some (G + 1)) := Lib.hid (by
              have q1 := GA.out
              have q2 := YB.out.lt
              refine ⟨fun e => ?_, fun e => ?_⟩
              · have e' : some g' = some G := e
                simp at e'
                rcases hat with h | h
                · exact q1.1 (e' ▸ h)
                · omega
              · have e' : some g' = some (G + 1) := e
                simp at e'
                rcases hat with h | h
                · exact q1.2 (e' ▸ h)
                · omega)
            have HW5 := Lib.hid hw5
            clear ho hg hat hw5 GY YA YB PR SY L1 GA
            have RS0 : Hid (rs = []) := Lib.hid (List.eq_nil_of_length_eq_zero (by rw [HLN0.out]; exact HZ.out))
            have CN := Lib.hid (cutN_first HIT.out (by rw [HRS.out, HLN0.out]; exact HZ.out))
            go_wp2_with fail
            rw [HW5.out]
            refine (q_add _ _ _).mono ?_
            rintro e w6 ⟨rfl, rfl⟩
            clear f0 f1
            go_wp2
            go_roundw
            case rel => exact ⟨n + 1, _, by omega, by rw [← lenN_step, es.out, EL2.out], by go_num, by rw [CN.out, FP.out, FP.out]; have q := GQ.out; rw [RS0.out] at q; exact q⟩
            case measure => simp [intOf]; omega
          · have hz' : ¬ (LN : Int) = 0 := by omega
            go_upto_region 14 with fail
            refine wp_region_gen 10 [9] [] [0, 0, 0, 0, 0, 0, 0, 0, 0, 1] (by kernel_rfl) (by kernel_rfl) (fun c a d v w h => by cases d <;> exact h) trivial (fun Gm w' => ∀ v, Gm 9 = some v → OneP w3.heap.size (onP pa pb (T - s) len) v w') (fun Gm w w' h hb v hv => (h v hv).stay hb) (fun v hv => by cases hv) ?_
            apply Exists.intro
            refine ⟨fun R hR hN => ?_, ?_, ?_⟩
            · have y1 := fun z => LaterR.read (R := R) GZ.out.out 1 _ rfl z
              have A0 := fun z => LaterR.read (R := R) ZA.out 0 _ rfl z
              have A1 := fun z => LaterR.read (R := R) ZA.out 1 _ rfl z
              have B0 := fun z => LaterR.read (R := R) ZB.out 0 _ rfl z
              have B1 := fun z => LaterR.read (R := R) ZB.out 1 _ rfl z
              simp only [quietL, takeA]
              repeat (go_big_quiet_step (first | (go_at_call 38; exact LaterR.calls hR (a_on _ _ _ _ _))))
              exact wpQuiet_nil rfl
            · intro i oo hi ho
              obtain rfl : i = 9 := by simpa using hi
              cases ho
              intro Gm w' hG hGn hdep hb hR
              refine ⟨rfl, gives_none (by kernel_rfl) hGn ?_⟩
              unfold gives
              simp [go_sem]
              refine ⟨hb.alloc hb.size _, fun v hv => ?_⟩
              rw [updV_eq] at hv
              cases hv
              exact ⟨_, rfl, hb.size, has_new0⟩
            intro Gm w' hb hR hG hN
            obtain ⟨v9, e9⟩ := hG 9 (by simp)
            obtain ⟨gp, rfl, lp, kp⟩ := hR v9 e9
            have nn : ∀ j, j < 9 → Gm j = none := fun j hj => hN j (by simp; omega)
            simp only [putV, dstAt, e9, nn 0 (by decide), nn 1 (by decide), nn 2 (by decide), nn 3 (by decide), nn 4 (by decide), nn 5 (by decide), nn 6 (by decide), nn 7 (by decide), nn 8 (by decide), List.drop_succ_cons, List.drop_zero, List.getElem?_cons_succ, List.getElem?_cons_zero, Option.bind_some]
            have GY := Lib.hid (GZ.out.later hb)
            have YA := Lib.hid (ZA.out.below hb ZA.out.lt)
            have YB := Lib.hid (ZB.out.below hb ZB.out.lt)
            have PR : Hid (Prow w' gp 0 [onP pa pb (T - s) len]) := Lib.hid (prow_has (cs := pCells (onP pa pb (T - s) len)) (by simp) kp rfl)
            have SY : Hid (B + 1 + 1 + 1 ≤ w'.heap.size) := Lib.hid (by have := GY.out.out.lt; omega)
            have L1 : Hid (LN + 1 ≤ 8796093022208) := Lib.hid (by omega)
            clear hb hR hG hN nn e9 kp GZ ZA ZB x1
            go_wp2_with (at_builtin; refine wpList_append_pl rfl _ _ rfl (LN) HLN.out rfl gp 0 1 1 rfl [onP pa pb (T - s) len] rfl (by decide) L1.out PR.out GY.out.own SY.out ?_)
            intro g' cap' w4 ho hg hat
            have f0 := (GY.out.fine hg).1
            have f1 := (GY.out.fine hg).2
            obtain ⟨w5, hw5⟩ : ∃ w5, w4.setCell ⟨B + 1 + 1, 1, none⟩ (.slice (some ⟨g', 0, none⟩) (LN + 1) cap') = w5 := ⟨_, rfl⟩
            have GQ := Lib.hid (GY.out.put ho hg)
            have AQ := Lib.hid (Cutt.keep (go := B + 1 + 1) hg YA.out GA.out.1 (by have := GO.out; omega) (.slice (some ⟨g', 0, none⟩) (LN + 1) cap'))
            have BQ := Lib.hid (Cutt.keep (go := B + 1 + 1) hg YB.out GA.out.2 (by have := GO.out; omega) (.slice (some ⟨g', 0, none⟩) (LN + 1) cap'))
            rw [hw5] at GQ AQ BQ
            have GAQ : Hid (Value.ownBlock (.slice (some ⟨g', 0, none⟩) (LN + 1) cap') ≠ some G ∧ Value.ownBlock (.slice (some ⟨g', 0, none⟩) (LN + 1) cap') ≠ some (G + 1)) := Lib.hid (by
              have q1 := GA.out
              have q2 := YB.out.lt
              refine ⟨fun e => ?_, fun e => ?_⟩
              · have e' : some g' = some G := e
                simp at e'
                rcases hat with h | h
                · exact q1.1 (e' ▸ h)
                · omega
              · have e' : some g' = some (G + 1) := e
                simp at e'
                rcases hat with h | h
                · exact q1.2 (e' ▸ h)
                · omega)
            have HW5 := Lib.hid hw5
            clear ho hg hat hw5 GY YA YB PR SY L1 GA
            have CN := Lib.hid (cutN_more HIT.out (by rw [HRS.out, HLN.out]; exact hz))
            go_wp2_with fail
            rw [HW5.out]
            refine (q_add _ _ _).mono ?_
            rintro e w6 ⟨rfl, rfl⟩
            clear f0 f1
            go_wp2
            go_roundw
            case rel => exact ⟨n + 1, _, by omega, by rw [← lenN_step, es.out, EL2.out], by go_num, by rw [CN.out, FP.out, HRS.out]; exact GQ.out⟩
            case measure => simp [intOf]; omega
        · have NH := Lib.hid (cutN_off (fun h => hh (HT.out.1 h)))
          clear HT
          have hh' : ¬ 0 < len ∨ (0 < len ∧ ¬ F < s + len) ∨ (0 < len ∧ F < s + len ∧ ¬ s < T) := by omega
          clear hh
          rcases hh' with h1 | ⟨h1, h2⟩ | ⟨h1, h2, h3⟩
          all_goals
            skip
            go_wp2_with fail
            refine (q_add _ _ _).mono ?_
            rintro e w6 ⟨rfl, rfl⟩
            go_wp2
            go_roundw
            case rel => exact ⟨n + 1, _, by omega, by rw [← lenN_step, es.out, EL2.out], by go_num, by rw [NH.out, HRS.out]; exact GZ.out⟩
            case measure => simp [intOf]; omega
      · obtain rfl : n = M := by omega
        have o3 : ¬ (n : Int) < n := by omega
        have GX := GH
        have c0 := GX.out.out.cell 0 _ rfl
        have c1 := GX.out.out.cell 1 _ rfl
        have v0 := GX.out.res.cell 0 _ rfl
        have v1 := GX.out.res.cell 1 _ rfl
        have fz := has_fro GX.out.res
        obtain ⟨aol, capl, hv⟩ := GX.out.own.len
        obtain ⟨ln, hln⟩ : ∃ k, (cutN ps F T n).length = k := ⟨_, rfl⟩
        rw [hln] at hv
        subst hv
        have RR : Gives w false R (.returned (.agg #[.bool false, .slice aol ln capl])) ((wr.setCell ⟨B + 1, 0, none⟩ (.bool false)).setCell ⟨B + 1, 1, none⟩ (.slice aol ln capl)) := by
          rw [ER.out]
          exact gives_put (w := w) HB.out (GX.out.own.lower (by omega)) GX.out.away.2.1 (by omega) (HB.out ▸ GX.out.below) rfl _ _ rfl
        have RRH := Lib.hid RR
        clear RR hln GX GH
        go_wp2
        refine bodyPost_ret (v := .agg #[.bool false, .slice aol ln capl]) (by simp [results, Try.results24, go_sem, v0, v1]) rfl ?_
        exact RRH.out

set_option maxRecDepth 100000 in
set_option maxHeartbeats 4000000 in
theorem r9_part (c : Bool) {v : Value} {ps : List Pt} {w : World} (f t : Int) (h : Psl w v ps) (h900 : ps.length ≤ 8796093022000) :
    Calls Try.prog 14 #[.agg #[.bool c, v], .int .i64 f, .int .i64 t] w (Gives w false (cutL c ps f t)) := by
  obtain ⟨B, hB⟩ : ∃ B, w.heap.size = B := ⟨_, rfl⟩
  obtain ⟨W, hW⟩ : ∃ W, ((w.alloc (.cells #[.bool c, v] 24)).alloc (.cells #[.bool false, .slice none 0 0] 24)).alloc (.cells #[.bool false, .slice none 0 0] 24) = W := ⟨_, rfl⟩
  have ha : Has W B #[.bool c, v] 24 := by rw [← hW]; exact ((has_new hB).alloc _).alloc _
  have hr : Has W (B + 1) #[.bool false, .slice none 0 0] 24 := by rw [← hW]; exact (has_new (by simp [hB])).alloc _
  have ho : Has W (B + 1 + 1) #[.bool false, .slice none 0 0] 24 := by rw [← hW]; exact has_new (by simp [hB])
  have hbl : Below w.heap.size w W := by rw [← hW]; exact (((Below.refl _ _).alloc (by omega) _).alloc (by simp) _).alloc (by simp; omega) _
  have hsz : W.heap.size = B + 1 + 1 + 1 := by rw [← hW]; simp [hB]
  have hs := h
  obtain ⟨ao, cap, rfl, hf, _⟩ := h
  obtain ⟨N, hN⟩ : ∃ N, ps.length = N := ⟨_, rfl⟩
  obtain ⟨M, hM⟩ : ∃ M, sidesN c N = M := ⟨_, rfl⟩
  have hMN : M ≤ N := hM ▸ sidesN_le c N
  rw [hN] at hf hs ha hW h900 ⊢
  have SD : Hid (∀ w : World, Calls Try.prog 25 #[.agg #[.bool c, .slice ao N cap]] w fun r w' => r = .returned (.int .i64 (M : Int)) ∧ Below w.heap.size w w') := Lib.hid (fun w => by have := r9_sides c ao N cap hf w; rw [hM] at this; exact this)
  have EL : Hid (¬ hold t ≤ hold f → cutL c ps f t = cutN ps (hold f) (hold t) M) := Lib.hid (fun h => by rw [cutL_yes h, hN, hM])
  have EN : Hid (hold t ≤ hold f → cutL c ps f t = []) := Lib.hid (fun h => cutL_no h)
  have HA := Lib.hid ha
  have HR := Lib.hid hr
  have HO := Lib.hid ho
  have HBL := Lib.hid hbl
  have HS := Lib.hid hs
  have HW := Lib.hid hW
  have HN := Lib.hid hN
  have HB := Lib.hid hB
  have HSZ := Lib.hid hsz
  have f0 := hold_lo f
  have f1 := hold_hi f
  have t0 := hold_lo t
  have t1 := hold_hi t
  obtain ⟨R, hR⟩ : ∃ R, cutL c ps f t = R := ⟨_, rfl⟩
  rw [hR] at EL EN ⊢
  obtain ⟨F, hF⟩ : ∃ F, hold f = F := ⟨_, rfl⟩
  obtain ⟨T, hT⟩ : ∃ T, hold t = T := ⟨_, rfl⟩
  rw [hF] at f0 f1 EL EN
  rw [hT] at t0 t1 EL EN
  have QF : Hid (∀ w, Calls Try.prog 30 #[.int .i64 f] w fun e w' => e = .returned (.int .i64 F) ∧ w = w') := Lib.hid (fun w => hF ▸ r_hold f w)
  have QT : Hid (∀ w, Calls Try.prog 30 #[.int .i64 t] w fun e w' => e = .returned (.int .i64 T) ∧ w = w') := Lib.hid (fun w => hT ▸ r_hold t w)
  clear ha hr ho hbl hs hW hN hM hsz hR hF hT
  have r0 := HR.out.cell 0 _ rfl
  have r1 := HR.out.cell 1 _ rfl
  have o0 := HO.out.cell 0 _ rfl
  have o1 := HO.out.cell 1 _ rfl
  have fr := has_fro HR.out
  by_cases hft : T ≤ F
  · have RR : Gives w false R (.returned (.agg #[.bool false, .slice none 0 0])) ((W.setCell ⟨B + 1, 0, none⟩ (.bool false)).setCell ⟨B + 1, 1, none⟩ (.slice none 0 0)) := by
      rw [EN.out hft]
      exact gives_put (w := w) HB.out (Pown.nil _ _) (by simp [Value.ownBlock]) (by omega) (HB.out ▸ HBL.out) rfl _ _ rfl
    have RRH := Lib.hid RR
    clear RR
    go_enter Try.func14, Try.ntmps14
    go_wp2_with fail
    refine (QF.out _).mono ?_
    rintro e w' ⟨rfl, rfl⟩
    go_wp2_with fail
    refine (QT.out _).mono ?_
    rintro e w' ⟨rfl, rfl⟩
    go_upto_region 3 with fail
    rw [HW.out]
    clear hB
    go_wp2
    refine bodyPost_ret (v := .agg #[.bool false, .slice none 0 0]) (by simp [results, Try.results14, go_sem, r0, r1]) rfl ?_
    exact RRH.out
  · have hft' : F < T := by omega
    have ER := Lib.hid (EL.out hft)
    clear EL EN hft
    have C0 : Hid (Cutt w B (B + 1) (B + 1 + 1) c (.slice ao N cap) [] (.slice none 0 0) W) := Lib.hid ⟨Pown.nil _ _, HO.out, HR.out, HA.out, HBL.out, by rw [HB.out]; omega, by omega, by omega⟩
    have a0 := HA.out.cell 0 _ rfl
    have a1 := HA.out.cell 1 _ rfl
    go_enter Try.func14, Try.ntmps14
    go_wp2_with fail
    refine (QF.out _).mono ?_
    rintro e w' ⟨rfl, rfl⟩
    go_wp2_with fail
    refine (QT.out _).mono ?_
    rintro e w' ⟨rfl, rfl⟩
    go_upto_region 3 with fail
    rw [HW.out]
    clear hB
    clear a0 a1 r0 r1 o0 o1 fr
    go_wp2_with fail
    go_loopw [8, 9] (fun s i wr => ∃ (n : Nat) (l : Value), n ≤ M ∧ s = .int .i64 (lenN ps n) ∧ i = .int .i64 n ∧ Cutt w B (B + 1) (B + 1 + 1) c (.slice ao N cap) (cutN ps F T n) l wr) (fun _ i _ => M - (intOf i).toNat)
    case atStart => exact ⟨0, _, by omega, by rw [lenN_zero], rfl, by rw [cutN_zero]; exact C0.out⟩
    case round =>
      obtain ⟨n, l, hn, rfl, rfl, hG⟩ := hrel
      have GH := Lib.hid hG
      have c0 := hG.src.cell 0 _ rfl
      have c1 := hG.src.cell 1 _ rfl
      clear hG
      obtain ⟨si, si0, si1⟩ : Hid (0 ≤ lenN ps n ∧ lenN ps n ≤ 1099511627776) ∧ 0 ≤ lenN ps n ∧ lenN ps n ≤ 1099511627776 := ⟨Lib.hid (lenN_in ps n), (lenN_in ps n).1, (lenN_in ps n).2⟩
      obtain ⟨s, hs⟩ : ∃ s, lenN ps n = s := ⟨_, rfl⟩
      rw [hs] at si0 si1 ⊢
      clear si
      have es := Lib.hid hs
      clear hs
      by_cases hlt : n < M
      · have o3 : (n : Int) < M := by omega
        have o5 : (n : Int) ≤ 8796093022208 := by omega
        go_wp2_with fail
        refine (SD.out _).mono ?_
        rintro e wx ⟨rfl, hqx⟩
        have GX := Lib.hid (GH.out.later hqx)
        have c0 := GX.out.src.cell 0 _ rfl
        have c1 := GX.out.src.cell 1 _ rfl
        clear hqx
        have SL := Lib.hid (HS.out.below GX.out.below (Nat.le_refl _))
        go_wp2_with fail
        refine (r9_side c SL.out HN.out (by omega)).mono ?_
        rintro e w2 ⟨rfl, hq2⟩
        obtain ⟨len, hl⟩ : ∃ l, sideL ps n = l := ⟨_, rfl⟩
        have l0 : 0 ≤ len := hl ▸ sideL_lo ps n
        have l1 : len ≤ 1518500249 := hl ▸ sideL_hi ps n
        have AL := Lib.hid (fun w => r9_far (sa ps n) (sb ps n) w (pld_plc _) (pld_plc _))
        rw [show longP (sa ps n) (sb ps n) = len from hl] at AL
        obtain ⟨pa, ha⟩ : ∃ p, sa ps n = p := ⟨_, rfl⟩
        obtain ⟨pb, hb⟩ : ∃ p, sb ps n = p := ⟨_, rfl⟩
        rw [ha, hb] at AL ⊢
        obtain ⟨G, hG⟩ : ∃ G, w2.heap.size = G := ⟨_, rfl⟩
        obtain ⟨V, hV⟩ : ∃ V, (w2.alloc (.cells (pCells pa) 31)).alloc (.cells (pCells pb) 31) = V := ⟨_, rfl⟩
        have kA : Has V G (pCells pa) 31 := by rw [← hV]; exact (has_new hG).alloc _
        have kB : Has V (G + 1) (pCells pb) 31 := by rw [← hV]; exact has_new (by simp [hG])
        have bV : Below wx.heap.size wx V := by rw [← hV]; exact (hq2.alloc hq2.size _).alloc (by have := hq2.size; simp; omega) _
        have GA : Hid (l.ownBlock ≠ some G ∧ l.ownBlock ≠ some (G + 1)) := Lib.hid ⟨fun e => by have := (GX.out.own.base G e).2; have := hq2.size; omega, fun e => by have := (GX.out.own.base (G + 1) e).2; have := hq2.size; omega⟩
        have GO : Hid (B + 1 + 1 < G) := Lib.hid (by have := GX.out.out.lt; have := hq2.size; omega)
        have KA := Lib.hid kA
        have KB := Lib.hid kB
        have BV := Lib.hid bV
        have HV := Lib.hid hV
        have EL2 := Lib.hid hl
        have EA := Lib.hid ha
        have EB := Lib.hid hb
        clear hq2 hl ha hb c0 c1 kA kB bV hV
        go_wp2_with fail
        rw [HV.out]
        refine (AL.out _).mono ?_
        rintro e w3 ⟨rfl, hq3⟩
        have ZA := Lib.hid (KA.out.below hq3 KA.out.lt)
        have ZB := Lib.hid (KB.out.below hq3 KB.out.lt)
        have GZ := Lib.hid ((GX.out.later BV.out).later hq3)
        obtain ⟨rs, hrs⟩ : ∃ rs, cutN ps F T n = rs := ⟨_, rfl⟩
        have HRS := Lib.hid hrs
        rw [hrs] at GZ
        obtain ⟨LN, hLN⟩ : ∃ k, rs.length = k := ⟨_, rfl⟩
        have hl9 : LN ≤ 8796093022010 := by rw [← hLN, ← hrs]; have := cutN_length ps F T n; omega
        have HLN := Lib.hid hLN
        obtain ⟨aol, capl, hv⟩ := GZ.out.own.len
        rw [hLN] at hv
        subst hv
        have FP : Hid (∀ x, fromP ps x n = onP pa pb (x - s) len) := Lib.hid (fun x => by unfold fromP; rw [EA.out, EB.out, es.out, EL2.out])
        have HT : Hid (hit ps F T n ↔ (0 < len ∧ F < s + len ∧ s < T)) := Lib.hid (by unfold hit; rw [es.out, EL2.out])
        clear hq3 GX BV HV KA KB hrs hLN AL EA EB
        go_wp2_with fail
        refine (r_add _ _ _).mono ?_
        rintro e w6 ⟨rfl, rfl⟩
        have PA := Lib.hid (add_past (s := s) (l := len) (f := F) si0 si1 l0 l1 (by omega))
        obtain ⟨ea, hea⟩ : ∃ x, add s len = x := ⟨_, rfl⟩
        have HEA := Lib.hid hea
        rw [hea] at PA ⊢
        clear hea
        by_cases hh : 0 < len ∧ F < s + len ∧ s < T
        · have HIT := Lib.hid (HT.out.2 hh)
          obtain ⟨h1, h2, h3⟩ := hh
          have h2a := PA.out.2 h2
          have x1 := GZ.out.out.cell 1 _ rfl
          by_cases hz : LN = 0
          · have hz' : (LN : Int) = 0 := by omega
            go_upto_region 14 with fail
            have HZ := Lib.hid hz
            clear hz hz'
            refine wp_region_gen 10 [9] [] [0, 0, 0, 0, 0, 0, 0, 0, 0, 1] (by kernel_rfl) (by kernel_rfl) (fun c a d v w h => by cases d <;> exact h) trivial (fun Gm w' => ∀ v, Gm 9 = some v → OneP w3.heap.size (onP pa pb (F - s) len) v w') (fun Gm w w' h hb v hv => (h v hv).stay hb) (fun v hv => by cases hv) ?_
            apply Exists.intro
            refine ⟨fun R hR hN => ?_, ?_, ?_⟩
            · have y1 := fun z => LaterR.read (R := R) GZ.out.out 1 _ rfl z
              have A0 := fun z => LaterR.read (R := R) ZA.out 0 _ rfl z
              have A1 := fun z => LaterR.read (R := R) ZA.out 1 _ rfl z
              have B0 := fun z => LaterR.read (R := R) ZB.out 0 _ rfl z
              have B1 := fun z => LaterR.read (R := R) ZB.out 1 _ rfl z
              simp only [quietL, takeA]
              repeat (go_big_quiet_step (first | (go_at_call 31; exact LaterR.calls hR (r9_on _ _ _ _ _))))
              exact wpQuiet_nil rfl
            · intro i oo hi ho
              obtain rfl : i = 9 := by simpa using hi
              cases ho
              intro Gm w' hG hGn hdep hb hR
              refine ⟨rfl, gives_none (by kernel_rfl) hGn ?_⟩
              unfold gives
              simp [go_sem]
              refine ⟨hb.alloc hb.size _, fun v hv => ?_⟩
              rw [updV_eq] at hv
              cases hv
              exact ⟨_, rfl, hb.size, has_new0⟩
            intro Gm w' hb hR hG hN
            obtain ⟨v9, e9⟩ := hG 9 (by simp)
            obtain ⟨gp, rfl, lp, kp⟩ := hR v9 e9
            have nn : ∀ j, j < 9 → Gm j = none := fun j hj => hN j (by simp; omega)
            simp only [putV, dstAt, e9, nn 0 (by decide), nn 1 (by decide), nn 2 (by decide), nn 3 (by decide), nn 4 (by decide), nn 5 (by decide), nn 6 (by decide), nn 7 (by decide), nn 8 (by decide), List.drop_succ_cons, List.drop_zero, List.getElem?_cons_succ, List.getElem?_cons_zero, Option.bind_some]
            have GY := Lib.hid (GZ.out.later hb)
            have YA := Lib.hid (ZA.out.below hb ZA.out.lt)
            have YB := Lib.hid (ZB.out.below hb ZB.out.lt)
            have PR : Hid (Prow w' gp 0 [onP pa pb (F - s) len]) := Lib.hid (prow_has (cs := pCells (onP pa pb (F - s) len)) (by simp) kp rfl)
            have SY : Hid (B + 1 + 1 + 1 ≤ w'.heap.size) := Lib.hid (by have := GY.out.out.lt; omega)
            have L1 : Hid (LN + 1 ≤ 8796093022208) := Lib.hid (by omega)
            clear hb hR hG hN nn e9 kp GZ ZA ZB x1
            go_wp2_with (at_builtin; refine wpList_append_pl rfl _ _ rfl (LN) HLN.out rfl gp 0 1 1 rfl [onP pa pb (F - s) len] rfl (by decide) L1.out PR.out GY.out.own SY.out ?_)
            intro g' cap' w4 ho hg hat
            have f0 := (GY.out.fine hg).1
            have f1 := (GY.out.fine hg).2
            obtain ⟨w5, hw5⟩ : ∃ w5, w4.setCell ⟨B + 1 + 1, 1, none⟩ (.slice (some ⟨g', 0, none⟩) (LN + 1) cap') = w5 := ⟨_, rfl⟩
            have GQ := Lib.hid (GY.out.put ho hg)
            have AQ := Lib.hid (Cutt.keep (go := B + 1 + 1) hg YA.out GA.out.1 (by have := GO.out; omega) (.slice (some ⟨g', 0, none⟩) (LN + 1) cap'))
            have BQ := Lib.hid (Cutt.keep (go := B + 1 + 1) hg YB.out GA.out.2 (by have := GO.out; omega) (.slice (some ⟨g', 0, none⟩) (LN + 1) cap'))
            rw [hw5] at GQ AQ BQ
            have GAQ : Hid (Value.ownBlock (.slice (some ⟨g', 0, none⟩) (LN + 1) cap') ≠ some G ∧ Value.ownBlock (.slice (some ⟨g', 0, none⟩) (LN + 1) cap') ≠ some (G + 1)) := Lib.hid (by
              have q1 := GA.out
              have q2 := YB.out.lt
              refine ⟨fun e => ?_, fun e => ?_⟩
              · have e' : some g' = some G := e
                simp at e'
                rcases hat with h | h
                · exact q1.1 (e' ▸ h)
                · omega
              · have e' : some g' = some (G + 1) := e
                simp at e'
                rcases hat with h | h
                · exact q1.2 (e' ▸ h)
                · omega)
            have HW5 := Lib.hid hw5
            clear ho hg hat hw5 GY YA YB PR SY L1 GA
            go_upto_region 15 with fail
            rw [HW5.out]
            clear f0 f1
            have GZ := GQ
            have ZA := AQ
            have ZB := BQ
            have GA := GAQ
            have x1 := GQ.out.out.cell 1 _ rfl
            clear GQ AQ BQ GAQ HW5
            have HLN0 := HLN
            have HLN : Hid ((rs ++ [onP pa pb (F - s) len]).length = LN + 1) := Lib.hid (by rw [List.length_append, HLN0.out]; rfl)
            refine wp_region_gen 10 [9] [] [0, 0, 0, 0, 0, 0, 0, 0, 0, 1] (by kernel_rfl) (by kernel_rfl) (fun c a d v w h => by cases d <;> exact h) trivial (fun Gm w' => ∀ v, Gm 9 = some v → OneP w5.heap.size (onP pa pb (T - s) len) v w') (fun Gm w w' h hb v hv => (h v hv).stay hb) (fun v hv => by cases hv) ?_
            apply Exists.intro
            refine ⟨fun R hR hN => ?_, ?_, ?_⟩
            · have y1 := fun z => LaterR.read (R := R) GZ.out.out 1 _ rfl z
              have A0 := fun z => LaterR.read (R := R) ZA.out 0 _ rfl z
              have A1 := fun z => LaterR.read (R := R) ZA.out 1 _ rfl z
              have B0 := fun z => LaterR.read (R := R) ZB.out 0 _ rfl z
              have B1 := fun z => LaterR.read (R := R) ZB.out 1 _ rfl z
              simp only [quietL, takeA]
              repeat (go_big_quiet_step (first | (go_at_call 31; exact LaterR.calls hR (r9_on _ _ _ _ _))))
              exact wpQuiet_nil rfl
            · intro i oo hi ho
              obtain rfl : i = 9 := by simpa using hi
              cases ho
              intro Gm w' hG hGn hdep hb hR
              refine ⟨rfl, gives_none (by kernel_rfl) hGn ?_⟩
              unfold gives
              simp [go_sem]
              refine ⟨hb.alloc hb.size _, fun v hv => ?_⟩
              rw [updV_eq] at hv
              cases hv
              exact ⟨_, rfl, hb.size, has_new0⟩
            intro Gm w' hb hR hG hN
            obtain ⟨v9, e9⟩ := hG 9 (by simp)
            obtain ⟨gp, rfl, lp, kp⟩ := hR v9 e9
            have nn : ∀ j, j < 9 → Gm j = none := fun j hj => hN j (by simp; omega)
            simp only [putV, dstAt, e9, nn 0 (by decide), nn 1 (by decide), nn 2 (by decide), nn 3 (by decide), nn 4 (by decide), nn 5 (by decide), nn 6 (by decide), nn 7 (by decide), nn 8 (by decide), List.drop_succ_cons, List.drop_zero, List.getElem?_cons_succ, List.getElem?_cons_zero, Option.bind_some]
            have GY := Lib.hid (GZ.out.later hb)
            have YA := Lib.hid (ZA.out.below hb ZA.out.lt)
            have YB := Lib.hid (ZB.out.below hb ZB.out.lt)
            have PR : Hid (Prow w' gp 0 [onP pa pb (T - s) len]) := Lib.hid (prow_has (cs := pCells (onP pa pb (T - s) len)) (by simp) kp rfl)
            have SY : Hid (B + 1 + 1 + 1 ≤ w'.heap.size) := Lib.hid (by have := GY.out.out.lt; omega)
            have L1 : Hid (LN + 1 + 1 ≤ 8796093022208) := Lib.hid (by omega)
            clear hb hR hG hN nn e9 kp GZ ZA ZB x1
            go_wp2_with (at_builtin; refine wpList_append_pl rfl _ _ rfl (LN + 1) HLN.out rfl gp 0 1 1 rfl [onP pa pb (T - s) len] rfl (by decide) L1.out PR.out GY.out.own SY.out ?_)
            intro g' cap' w4 ho hg hat
            have f0 := (GY.out.fine hg).1
            have f1 := (GY.out.fine hg).2
            obtain ⟨w5, hw5⟩ : ∃ w5, w4.setCell ⟨B + 1 + 1, 1, none⟩ (.slice (some ⟨g', 0, none⟩) (LN + 1 + 1) cap') = w5 := ⟨_, rfl⟩
            have GQ := Lib.hid (GY.out.put ho hg)
            have AQ := Lib.hid (Cutt.keep (go := B + 1 + 1) hg YA.out GA.out.1 (by have := GO.out; omega) (.slice (some ⟨g', 0, none⟩) (LN + 1 + 1) cap'))
            have BQ := Lib.hid (Cutt.keep (go := B + 1 + 1) hg YB.out GA.out.2 (by have := GO.out; omega) (.slice (some ⟨g', 0, none⟩) (LN + 1 + 1) cap'))
            rw [hw5] at GQ AQ BQ
            have GAQ : Hid (Value.ownBlock (.slice (some ⟨g', 0, none⟩) (LN + 1 + 1) cap') ≠ some G ∧ Value.ownBlock (.slice (some ⟨g', 0, none⟩) (LN + 1 + 1) cap') ≠ some (G + 1)) := Lib.hid (by
              have q1 := GA.out
              have q2 := YB.out.lt
              refine ⟨fun e => ?_, fun e => ?_⟩
              · have e' : some g' = some G := e
                simp at e'
                rcases hat with h | h
                · exact q1.1 (e' ▸ h)
                · omega
              · have e' : some g' = some (G + 1) := e
                simp at e'
                rcases hat with h | h
                · exact q1.2 (e' ▸ h)
                · omega)
            have HW5 := Lib.hid hw5
            clear ho hg hat hw5 GY YA YB PR SY L1 GA
            have RS0 : Hid (rs = []) := Lib.hid (List.eq_nil_of_length_eq_zero (by rw [HLN0.out]; exact HZ.out))
            have CN := Lib.hid (cutN_first HIT.out (by rw [HRS.out, HLN0.out]; exact HZ.out))
            go_wp2
            rw [HW5.out]
            clear f0 f1
            go_roundw
            case rel => exact ⟨n + 1, _, by omega, by rw [← lenN_step, es.out, EL2.out, HEA.out], by go_num, by rw [CN.out, FP.out, FP.out]; have q := GQ.out; rw [RS0.out] at q; exact q⟩
            case measure => simp [intOf]; omega
          · have hz' : ¬ (LN : Int) = 0 := by omega
            go_upto_region 15 with fail
            refine wp_region_gen 10 [9] [] [0, 0, 0, 0, 0, 0, 0, 0, 0, 1] (by kernel_rfl) (by kernel_rfl) (fun c a d v w h => by cases d <;> exact h) trivial (fun Gm w' => ∀ v, Gm 9 = some v → OneP w3.heap.size (onP pa pb (T - s) len) v w') (fun Gm w w' h hb v hv => (h v hv).stay hb) (fun v hv => by cases hv) ?_
            apply Exists.intro
            refine ⟨fun R hR hN => ?_, ?_, ?_⟩
            · have y1 := fun z => LaterR.read (R := R) GZ.out.out 1 _ rfl z
              have A0 := fun z => LaterR.read (R := R) ZA.out 0 _ rfl z
              have A1 := fun z => LaterR.read (R := R) ZA.out 1 _ rfl z
              have B0 := fun z => LaterR.read (R := R) ZB.out 0 _ rfl z
              have B1 := fun z => LaterR.read (R := R) ZB.out 1 _ rfl z
              simp only [quietL, takeA]
              repeat (go_big_quiet_step (first | (go_at_call 31; exact LaterR.calls hR (r9_on _ _ _ _ _))))
              exact wpQuiet_nil rfl
            · intro i oo hi ho
              obtain rfl : i = 9 := by simpa using hi
              cases ho
              intro Gm w' hG hGn hdep hb hR
              refine ⟨rfl, gives_none (by kernel_rfl) hGn ?_⟩
              unfold gives
              simp [go_sem]
              refine ⟨hb.alloc hb.size _, fun v hv => ?_⟩
              rw [updV_eq] at hv
              cases hv
              exact ⟨_, rfl, hb.size, has_new0⟩
            intro Gm w' hb hR hG hN
            obtain ⟨v9, e9⟩ := hG 9 (by simp)
            obtain ⟨gp, rfl, lp, kp⟩ := hR v9 e9
            have nn : ∀ j, j < 9 → Gm j = none := fun j hj => hN j (by simp; omega)
            simp only [putV, dstAt, e9, nn 0 (by decide), nn 1 (by decide), nn 2 (by decide), nn 3 (by decide), nn 4 (by decide), nn 5 (by decide), nn 6 (by decide), nn 7 (by decide), nn 8 (by decide), List.drop_succ_cons, List.drop_zero, List.getElem?_cons_succ, List.getElem?_cons_zero, Option.bind_some]
            have GY := Lib.hid (GZ.out.later hb)
            have YA := Lib.hid (ZA.out.below hb ZA.out.lt)
            have YB := Lib.hid (ZB.out.below hb ZB.out.lt)
            have PR : Hid (Prow w' gp 0 [onP pa pb (T - s) len]) := Lib.hid (prow_has (cs := pCells (onP pa pb (T - s) len)) (by simp) kp rfl)
            have SY : Hid (B + 1 + 1 + 1 ≤ w'.heap.size) := Lib.hid (by have := GY.out.out.lt; omega)
            have L1 : Hid (LN + 1 ≤ 8796093022208) := Lib.hid (by omega)
            clear hb hR hG hN nn e9 kp GZ ZA ZB x1
            go_wp2_with (at_builtin; refine wpList_append_pl rfl _ _ rfl (LN) HLN.out rfl gp 0 1 1 rfl [onP pa pb (T - s) len] rfl (by decide) L1.out PR.out GY.out.own SY.out ?_)
            intro g' cap' w4 ho hg hat
            have f0 := (GY.out.fine hg).1
            have f1 := (GY.out.fine hg).2
            obtain ⟨w5, hw5⟩ : ∃ w5, w4.setCell ⟨B + 1 + 1, 1, none⟩ (.slice (some ⟨g', 0, none⟩) (LN + 1) cap') = w5 := ⟨_, rfl⟩
            have GQ := Lib.hid (GY.out.put ho hg)
            have AQ := Lib.hid (Cutt.keep (go := B + 1 + 1) hg YA.out GA.out.1 (by have := GO.out; omega) (.slice (some ⟨g', 0, none⟩) (LN + 1) cap'))
            have BQ := Lib.hid (Cutt.keep (go := B + 1 + 1) hg YB.out GA.out.2 (by have := GO.out; omega) (.slice (some ⟨g', 0, none⟩) (LN + 1) cap'))
            rw [hw5] at GQ AQ BQ
            have GAQ : Hid (Value.ownBlock (.slice (some ⟨g', 0, none⟩) (LN + 1) cap') ≠ some G ∧ Value.ownBlock (.slice (some ⟨g', 0, none⟩) (LN + 1) cap') ≠ some (G + 1)) := Lib.hid (by
              have q1 := GA.out
              have q2 := YB.out.lt
              refine ⟨fun e => ?_, fun e => ?_⟩
              · have e' : some g' = some G := e
                simp at e'
                rcases hat with h | h
                · exact q1.1 (e' ▸ h)
                · omega
              · have e' : some g' = some (G + 1) := e
                simp at e'
                rcases hat with h | h
                · exact q1.2 (e' ▸ h)
                · omega)
            have HW5 := Lib.hid hw5
            clear ho hg hat hw5 GY YA YB PR SY L1 GA
            have CN := Lib.hid (cutN_more HIT.out (by rw [HRS.out, HLN.out]; exact hz))
            go_wp2
            rw [HW5.out]
            clear f0 f1
            go_roundw
            case rel => exact ⟨n + 1, _, by omega, by rw [← lenN_step, es.out, EL2.out, HEA.out], by go_num, by rw [CN.out, FP.out, HRS.out]; exact GQ.out⟩
            case measure => simp [intOf]; omega
        · have NH := Lib.hid (cutN_off (fun h => hh (HT.out.1 h)))
          clear HT
          have hh' : ¬ 0 < len ∨ (0 < len ∧ ¬ F < s + len) ∨ (0 < len ∧ F < s + len ∧ ¬ s < T) := by omega
          clear hh
          rcases hh' with h1 | ⟨h1, h2⟩ | ⟨h1, h2, h3⟩
          all_goals
            have pa2 := PA.out
            go_wp2
            go_roundw
            case rel => exact ⟨n + 1, _, by omega, by rw [← lenN_step, es.out, EL2.out, HEA.out], by go_num, by rw [NH.out, HRS.out]; exact GZ.out⟩
            case measure => simp [intOf]; omega
      · obtain rfl : n = M := by omega
        have o3 : ¬ (n : Int) < n := by omega
        go_wp2_with fail
        refine (SD.out _).mono ?_
        rintro e wx ⟨rfl, hqx⟩
        have GX := Lib.hid (GH.out.later hqx)
        clear hqx
        have c0 := GX.out.out.cell 0 _ rfl
        have c1 := GX.out.out.cell 1 _ rfl
        have v0 := GX.out.res.cell 0 _ rfl
        have v1 := GX.out.res.cell 1 _ rfl
        have fz := has_fro GX.out.res
        obtain ⟨aol, capl, hv⟩ := GX.out.own.len
        obtain ⟨ln, hln⟩ : ∃ k, (cutN ps F T n).length = k := ⟨_, rfl⟩
        rw [hln] at hv
        subst hv
        have RR : Gives w false R (.returned (.agg #[.bool false, .slice aol ln capl])) ((wx.setCell ⟨B + 1, 0, none⟩ (.bool false)).setCell ⟨B + 1, 1, none⟩ (.slice aol ln capl)) := by
          rw [ER.out]
          exact gives_put (w := w) HB.out (GX.out.own.lower (by omega)) GX.out.away.2.1 (by omega) (HB.out ▸ GX.out.below) rfl _ _ rfl
        have RRH := Lib.hid RR
        clear RR hln GX GH
        go_wp2
        refine bodyPost_ret (v := .agg #[.bool false, .slice aol ln capl]) (by simp [results, Try.results14, go_sem, v0, v1]) rfl ?_
        exact RRH.out

end Go.Proofs.Ytgnmiilmmbblmaa
