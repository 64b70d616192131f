/- Contract of mutoscopelaw9.same: it returns true for whatever poly and numbers; of the memory nothing that was there turns. -/
import Derived.Test.YtddcjdhlmlhgdaaN4
import Derived.Test.YtddcjdhlmlhgdaaRP8
import Derived.Test.YtddcjdhlmlhgdaaYO8
import Derived.Test.YtddcjdhlmlhgdaaWant
namespace Go.Proofs.Ytddcjdhlmlhgdaa
open Go Go.RowKit
open M

/-- The value v is a list of one poly, of the call's own, in a block of its own. -/
def OneY (base : Nat) (c : Bool) (ps : List Pt) (v : Value) (w : World) : Prop := ∃ g l, v = .slice (some ⟨g, 0, none⟩) 1 1 ∧ base ≤ g ∧ Has w g #[.bool c, l] 24 ∧ Psl w l ps
theorem OneY.stay {base : Nat} {c : Bool} {ps : List Pt} {v : Value} {w w' : World} (h : OneY base c ps v w) (hb : Below w.heap.size w w') : OneY base c ps v w' := by
  obtain ⟨g, l, e, hl, k, s⟩ := h
  exact ⟨g, l, e, hl, k.below hb k.lt, s.below hb (Nat.le_refl _)⟩
theorem OneY.ysl {base : Nat} {c : Bool} {ps : List Pt} {v : Value} {w : World} (h : OneY base c ps v w) : ∃ l, Ysl w v [⟨c, l, ps⟩] := by
  obtain ⟨g, l, rfl, hl, k, s⟩ := h
  exact ⟨l, ysl_one s k⟩

set_option maxRecDepth 100000 in
set_option maxHeartbeats 4000000 in
theorem l9_same {v : Value} {ps : List Pt} {w : World} (c : Bool) (f t : Int) (h : Psl w v ps) (h900 : ps.length ≤ 900) :
    Calls Try.prog 10 #[.agg #[.bool c, v], .int .i64 f, .int .i64 t] w fun e w' => e = .returned (.bool true) ∧ Below w.heap.size w w' := by
  obtain ⟨B, hB⟩ : ∃ B, w.heap.size = B := ⟨_, rfl⟩
  obtain ⟨W, hW⟩ : ∃ W, w.alloc (.cells #[.bool c, v] 24) = W := ⟨_, rfl⟩
  have hp : Has W B #[.bool c, v] 24 := by rw [← hW]; exact has_new hB
  have hbl : Below w.heap.size w W := by rw [← hW]; exact (Below.refl _ _).alloc (Nat.le_refl _) _
  have hs := h.below hbl (Nat.le_refl _)
  obtain ⟨fs, hfs⟩ : ∃ fs, cutL c ps f t = fs := ⟨_, rfl⟩
  have hfl : fs.length ≤ 1000 := by rw [← hfs]; have := cutL_length c ps f t; omega
  have AP := Lib.hid (fun (W' : World) (hb : Below W.heap.size W W') => hfs ▸ a_part c f t (hs.below hb (Nat.le_refl _)) h900)
  have RP := Lib.hid (fun (W' : World) (hb : Below W.heap.size W W') => hfs ▸ r9_part c f t (hs.below hb (Nat.le_refl _)) h900)
  obtain ⟨L, hL⟩ : ∃ L, lengthL c ps = L := ⟨_, rfl⟩
  have AL := Lib.hid (fun (W' : World) (hb : Below W.heap.size W W') => hL ▸ a_length c (hs.below hb (Nat.le_refl _)))
  have RL := Lib.hid (fun (W' : World) (hb : Below W.heap.size W W') => hL ▸ r9_length c (hs.below hb (Nat.le_refl _)))
  obtain ⟨ao, cap, rfl, hf, _⟩ := h
  obtain ⟨N, hN⟩ : ∃ N, ps.length = N := ⟨_, rfl⟩
  rw [hN] at hf hs hp hW AP RP AL RL ⊢
  obtain ⟨M, hM⟩ : ∃ M, sidesN c N = M := ⟨_, rfl⟩
  have AS := Lib.hid (fun (W' : World) => hM ▸ a_sides c ao N cap hf W')
  have RS := Lib.hid (fun (W' : World) => hM ▸ r9_sides c ao N cap hf W')
  have HP := Lib.hid hp
  have HBL := Lib.hid hbl
  have HW := Lib.hid hW
  have HFL := Lib.hid hfl
  clear hp hbl hW hs hfs hfl hL hN hM
  go_enter Try.func10, Try.ntmps10
  go_upto_region 1 with fail
  rw [HW.out]
  clear hB
  refine wp_region_gen 23 [16, 17, 21, 22] [] [0, 0, 0, 0, 0, 0, 0, 0, 0, 0, 0, 0, 0, 0, 0, 0, 1, 1, 0, 0, 0, 1, 1] (by kernel_rfl) (by kernel_rfl) (fun c a d v w h => by cases d <;> exact h) trivial (fun G w' => ((∀ v, G 16 = some v → PolyO W.heap.size false fs v w') ∧ (∀ v, G 21 = some v → PolyO W.heap.size false fs v w')) ∧ (∀ v, G 17 = some v → OneY W.heap.size false fs v w') ∧ (∀ v, G 22 = some v → OneY W.heap.size false fs v w')) (fun G w w' h hb => ⟨⟨fun v hv => (h.1.1 v hv).stay hb, fun v hv => (h.1.2 v hv).stay hb⟩, fun v hv => (h.2.1 v hv).stay hb, fun v hv => (h.2.2 v hv).stay hb⟩) ⟨⟨fun v hv => (by cases hv), fun v hv => (by cases hv)⟩, fun v hv => (by cases hv), fun v hv => (by cases hv)⟩ ?_
  apply Exists.intro
  refine ⟨fun R hR hN => ?_, ?_, ?_⟩
  · have a0 := fun z => LaterR.read (R := R) HP.out 0 _ rfl z
    have a1 := fun z => LaterR.read (R := R) HP.out 1 _ rfl z
    simp only [quietL, takeA]
    repeat (go_big_quiet_step (first | (go_at_call 14; exact LaterR.calls hR (AL.out _ (LaterR.below _))) | (go_at_call 9; exact LaterR.calls hR (RL.out _ (LaterR.below _))) | (go_at_call 16; exact LaterR.calls hR (AS.out _)) | (go_at_call 20; exact LaterR.calls hR (RS.out _))))
    exact wpQuiet_nil rfl
  · intro i oo hi ho
    have hi' : i = 16 ∨ i = 17 ∨ i = 21 ∨ i = 22 := by simpa using hi
    clear hi
    rcases hi' with rfl | rfl | rfl | rfl
    · cases ho
      intro G w' hG hGn hdep hb hR
      refine ⟨wanted_put (by kernel_rfl) hGn rfl, gives_none (by kernel_rfl) hGn ?_⟩
      unfold gives
      simp [go_sem]
      refine (AP.out w' hb).mono ?_
      rintro r w'' ⟨l, rfl, hol, hbb⟩
      refine ⟨_, rfl, hb.trans (hbb.mono hb.size), ⟨fun v hv => ?_, fun v hv => ?_⟩, fun v hv => ?_, fun v hv => ?_⟩
      · rw [updV_eq] at hv; cases hv; exact ⟨l, rfl, hol.lower hb.size⟩
      · rw [updV_ne G _ (by omega)] at hv; exact (hR.1.2 v hv).stay hbb
      · rw [updV_ne G _ (by omega)] at hv; exact (hR.2.1 v hv).stay hbb
      · rw [updV_ne G _ (by omega)] at hv; exact (hR.2.2 v hv).stay hbb
    · cases ho
      intro G w' hG hGn hdep hb hR
      obtain ⟨v16, hv16⟩ := Option.ne_none_iff_exists'.1 (hdep 16 (by simp) (by kernel_rfl))
      obtain ⟨l, rfl, hol⟩ := hR.1.1 v16 hv16
      refine ⟨wanted_put (by kernel_rfl) hGn rfl, gives_one (k := 16) (by kernel_rfl) hGn (by omega) hv16 ?_⟩
      unfold gives
      simp [go_sem, dstAt]
      have bA : Below w'.heap.size w' (w'.alloc (.cells #[.bool false, l] 24)) := (Below.refl _ _).alloc (Nat.le_refl _) _
      refine ⟨hb.alloc hb.size _, ⟨fun v hv => ?_, fun v hv => ?_⟩, fun v hv => ?_, fun v hv => ?_⟩
      · rw [updV_ne G _ (by omega)] at hv; exact (hR.1.1 v hv).stay bA
      · rw [updV_ne G _ (by omega)] at hv; exact (hR.1.2 v hv).stay bA
      · rw [updV_eq] at hv; cases hv; exact ⟨_, l, rfl, hb.size, has_new0, (hol.sl HFL.out).alloc _⟩
      · rw [updV_ne G _ (by omega)] at hv; exact (hR.2.2 v hv).stay bA
    · cases ho
      intro G w' hG hGn hdep hb hR
      refine ⟨wanted_put (by kernel_rfl) hGn rfl, gives_none (by kernel_rfl) hGn ?_⟩
      unfold gives
      simp [go_sem]
      refine (RP.out w' hb).mono ?_
      rintro r w'' ⟨l, rfl, hol, hbb⟩
      refine ⟨_, rfl, hb.trans (hbb.mono hb.size), ⟨fun v hv => ?_, fun v hv => ?_⟩, fun v hv => ?_, fun v hv => ?_⟩
      · rw [updV_ne G _ (by omega)] at hv; exact (hR.1.1 v hv).stay hbb
      · rw [updV_eq] at hv; cases hv; exact ⟨l, rfl, hol.lower hb.size⟩
      · rw [updV_ne G _ (by omega)] at hv; exact (hR.2.1 v hv).stay hbb
      · rw [updV_ne G _ (by omega)] at hv; exact (hR.2.2 v hv).stay hbb
    · cases ho
      intro G w' hG hGn hdep hb hR
      obtain ⟨v21, hv21⟩ := Option.ne_none_iff_exists'.1 (hdep 21 (by simp) (by kernel_rfl))
      obtain ⟨l, rfl, hol⟩ := hR.1.2 v21 hv21
      refine ⟨wanted_put (by kernel_rfl) hGn rfl, gives_one (k := 21) (by kernel_rfl) hGn (by omega) hv21 ?_⟩
      unfold gives
      simp [go_sem, dstAt]
      have bA : Below w'.heap.size w' (w'.alloc (.cells #[.bool false, l] 24)) := (Below.refl _ _).alloc (Nat.le_refl _) _
      refine ⟨hb.alloc hb.size _, ⟨fun v hv => ?_, fun v hv => ?_⟩, fun v hv => ?_, fun v hv => ?_⟩
      · rw [updV_ne G _ (by omega)] at hv; exact (hR.1.1 v hv).stay bA
      · rw [updV_ne G _ (by omega)] at hv; exact (hR.1.2 v hv).stay bA
      · rw [updV_ne G _ (by omega)] at hv; exact (hR.2.1 v hv).stay bA
      · rw [updV_eq] at hv; cases hv; exact ⟨_, l, rfl, hb.size, has_new0, (hol.sl HFL.out).alloc _⟩
  · intro G w3 hb3 hR hG hN
    obtain ⟨v16, e16⟩ := hG 16 (by simp)
    obtain ⟨v17, e17⟩ := hG 17 (by simp)
    obtain ⟨v21, e21⟩ := hG 21 (by simp)
    obtain ⟨v22, e22⟩ := hG 22 (by simp)
    obtain ⟨l1, rfl, _⟩ := hR.1.1 v16 e16
    obtain ⟨l2, rfl, _⟩ := hR.1.2 v21 e21
    obtain ⟨la, ya⟩ := (hR.2.1 v17 e17).ysl
    obtain ⟨lb, yb⟩ := (hR.2.2 v22 e22).ysl
    have nn : ∀ j, j < 16 → G j = none := fun j hj => hN j (by simp; omega)
    have PY := Lib.hid (r8_polys ya yb rfl one_alike)
    have BB : Hid (Below w.heap.size w w3) := Lib.hid (HBL.out.trans (hb3.mono HBL.out.size))
    simp only [putV, dstAt, e16, e17, e21, e22, nn 0 (by decide), nn 1 (by decide), nn 2 (by decide), nn 3 (by decide), nn 4 (by decide), nn 5 (by decide), nn 6 (by decide), nn 7 (by decide), nn 8 (by decide), nn 9 (by decide), nn 10 (by decide), nn 11 (by decide), nn 12 (by decide), nn 13 (by decide), nn 14 (by decide), nn 15 (by decide), hN 18 (by simp), hN 19 (by simp), hN 20 (by simp), List.drop_succ_cons, List.drop_zero, List.getElem?_cons_succ, List.getElem?_cons_zero, Option.bind_some]
    clear hb3 hR hG hN nn ya yb e16 e17 e21 e22
    go_wp2_with fail
    refine PY.out.mono ?_
    rintro e w4 ⟨rfl, hq4⟩
    have B4 := Lib.hid (BB.out.trans (hq4.mono BB.out.size))
    clear hq4
    go_wp2
    go_ret
    exact ⟨rfl, B4.out⟩

end Go.Proofs.Ytddcjdhlmlhgdaa
