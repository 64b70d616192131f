/- ArcTells of the statements: whatever the numbers are, the call returns true and each argument reads as it did; no condition. -/
import Derived.Test.YtddcjdhlmlhgdaaN4
import Derived.Test.YtddcjdhlmlhgdaaRP8
import Derived.Test.YtddcjdhlmlhgdaaYO8
import Derived.Test.YtddcjdhlmlhgdaaWant
import Derived.Test.YtddcjdhlmlhgdaaPT9
import Derived.Deep.Slices
import Derived.Deep.Fields
import Derived.ChangeSame
import Derived.ChangeArms
import Derived.Test.YtddcjdhlmlhgdaaRows
import Derived.WalkKit
import Derived.ProofKit
import Derived.OpenShut
import Derived.Test.YtddcjdhlmlhgdaaInts
import Derived.Test.YtddcjdhlmlhgdaaAT5
import Derived.Carry
namespace Go.Proofs.Ytddcjdhlmlhgdaa
open Go Go.RowKit
open M

/-- The value v is a list of one poly, of the call's own, in a block of its own. -/
def OneY (base : Nat) (c : Bool) (ps : List Pt) (v : Value) (w : World) : Prop := ∃ g l, v = .slice (some ⟨g, 0, none⟩) 1 1 ∧ base ≤ g ∧ Has w g #[.bool c, l] 24 ∧ Psl w l ps
theorem OneY.stay {base : Nat} {c : Bool} {ps : List Pt} {v : Value} {w w' : World} (h : OneY base c ps v w) (hb : Below w.heap.size w w') : OneY base c ps v w' := by
  obtain ⟨g, l, e, hl, k, s⟩ := h
  exact ⟨g, l, e, hl, k.below hb k.lt, s.below hb (Nat.le_refl _)⟩
theorem OneY.ysl {base : Nat} {c : Bool} {ps : List Pt} {v : Value} {w : World} (h : OneY base c ps v w) : ∃ l, Ysl w v [⟨c, l, ps⟩] := by
  obtain ⟨g, l, rfl, hl, k, s⟩ := h
  exact ⟨l, ysl_one s k⟩

set_option maxRecDepth 100000 in
set_option maxHeartbeats 4000000 in
theorem l9_same {v : Value} {ps : List Pt} {w : World} (c : Bool) (f t : Int) (h : Psl w v ps) (h900 : ps.length ≤ 900) :
    Calls Try.prog 10 #[.agg #[.bool c, v], .int .i64 f, .int .i64 t] w fun e w' => e = .returned (.bool true) ∧ Below w.heap.size w w' := by
  obtain ⟨B, hB⟩ : ∃ B, w.heap.size = B := ⟨_, rfl⟩
  obtain ⟨W, hW⟩ : ∃ W, w.alloc (.cells #[.bool c, v] 24) = W := ⟨_, rfl⟩
  have hp : Has W B #[.bool c, v] 24 := by rw [← hW]; exact has_new hB
  have hbl : Below w.heap.size w W := by rw [← hW]; exact (Below.refl _ _).alloc (Nat.le_refl _) _
  have hs := h.below hbl (Nat.le_refl _)
  obtain ⟨fs, hfs⟩ : ∃ fs, cutL c ps f t = fs := ⟨_, rfl⟩
  have hfl : fs.length ≤ 1000 := by rw [← hfs]; have := cutL_length c ps f t; omega
  have AP := Lib.hid (fun (W' : World) (hb : Below W.heap.size W W') => hfs ▸ a_part c f t (hs.below hb (Nat.le_refl _)) h900)
  have RP := Lib.hid (fun (W' : World) (hb : Below W.heap.size W W') => hfs ▸ r9_part c f t (hs.below hb (Nat.le_refl _)) h900)
  obtain ⟨L, hL⟩ : ∃ L, lengthL c ps = L := ⟨_, rfl⟩
  have AL := Lib.hid (fun (W' : World) (hb : Below W.heap.size W W') => hL ▸ a_length c (hs.below hb (Nat.le_refl _)))
  have RL := Lib.hid (fun (W' : World) (hb : Below W.heap.size W W') => hL ▸ r9_length c (hs.below hb (Nat.le_refl _)))
  obtain ⟨ao, cap, rfl, hf, _⟩ := h
  obtain ⟨N, hN⟩ : ∃ N, ps.length = N := ⟨_, rfl⟩
  rw [hN] at hf hs hp hW AP RP AL RL ⊢
  obtain ⟨M, hM⟩ : ∃ M, sidesN c N = M := ⟨_, rfl⟩
  have AS := Lib.hid (fun (W' : World) => hM ▸ a_sides c ao N cap hf W')
  have RS := Lib.hid (fun (W' : World) => hM ▸ r9_sides c ao N cap hf W')
  have HP := Lib.hid hp
  have HBL := Lib.hid hbl
  have HW := Lib.hid hW
  have HFL := Lib.hid hfl
  clear hp hbl hW hs hfs hfl hL hN hM
  go_enter Try.func10, Try.ntmps10
  go_upto_region 1 with fail
  rw [HW.out]
  clear hB
  refine wp_region_gen 23 [16, 17, 21, 22] [] [0, 0, 0, 0, 0, 0, 0, 0, 0, 0, 0, 0, 0, 0, 0, 0, 1, 1, 0, 0, 0, 1, 1] (by kernel_rfl) (by kernel_rfl) (fun c a d v w h => by cases d <;> exact h) trivial (fun G w' => ((∀ v, G 16 = some v → PolyO W.heap.size false fs v w') ∧ (∀ v, G 21 = some v → PolyO W.heap.size false fs v w')) ∧ (∀ v, G 17 = some v → OneY W.heap.size false fs v w') ∧ (∀ v, G 22 = some v → OneY W.heap.size false fs v w')) (fun G w w' h hb => ⟨⟨fun v hv => (h.1.1 v hv).stay hb, fun v hv => (h.1.2 v hv).stay hb⟩, fun v hv => (h.2.1 v hv).stay hb, fun v hv => (h.2.2 v hv).stay hb⟩) ⟨⟨fun v hv => (by cases hv), fun v hv => (by cases hv)⟩, fun v hv => (by cases hv), fun v hv => (by cases hv)⟩ ?_
  apply Exists.intro
  refine ⟨fun R hR hN => ?_, ?_, ?_⟩
  · have a0 := fun z => LaterR.read (R := R) HP.out 0 _ rfl z
    have a1 := fun z => LaterR.read (R := R) HP.out 1 _ rfl z
    simp only [quietL, takeA]
    repeat (go_big_quiet_step (first | (go_at_call 14; exact LaterR.calls hR (AL.out _ (LaterR.below _))) | (go_at_call 9; exact LaterR.calls hR (RL.out _ (LaterR.below _))) | (go_at_call 16; exact LaterR.calls hR (AS.out _)) | (go_at_call 20; exact LaterR.calls hR (RS.out _))))
    exact wpQuiet_nil rfl
  · intro i oo hi ho
    have hi' : i = 16 ∨ i = 17 ∨ i = 21 ∨ i = 22 := by simpa using hi
    clear hi
    rcases hi' with rfl | rfl | rfl | rfl
    · cases ho
      intro G w' hG hGn hdep hb hR
      refine ⟨wanted_put (by kernel_rfl) hGn rfl, gives_none (by kernel_rfl) hGn ?_⟩
      unfold gives
      simp [go_sem]
      refine (AP.out w' hb).mono ?_
      rintro r w'' ⟨l, rfl, hol, hbb⟩
      refine ⟨_, rfl, hb.trans (hbb.mono hb.size), ⟨fun v hv => ?_, fun v hv => ?_⟩, fun v hv => ?_, fun v hv => ?_⟩
      · rw [updV_eq] at hv; cases hv; exact ⟨l, rfl, hol.lower hb.size⟩
      · rw [updV_ne G _ (by omega)] at hv; exact (hR.1.2 v hv).stay hbb
      · rw [updV_ne G _ (by omega)] at hv; exact (hR.2.1 v hv).stay hbb
      · rw [updV_ne G _ (by omega)] at hv; exact (hR.2.2 v hv).stay hbb
    · cases ho
      intro G w' hG hGn hdep hb hR
      obtain ⟨v16, hv16⟩ := Option.ne_none_iff_exists'.1 (hdep 16 (by simp) (by kernel_rfl))
      obtain ⟨l, rfl, hol⟩ := hR.1.1 v16 hv16
      refine ⟨wanted_put (by kernel_rfl) hGn rfl, gives_one (k := 16) (by kernel_rfl) hGn (by omega) hv16 ?_⟩
      unfold gives
      simp [go_sem, dstAt]
      have bA : Below w'.heap.size w' (w'.alloc (.cells #[.bool false, l] 24)) := (Below.refl _ _).alloc (Nat.le_refl _) _
      refine ⟨hb.alloc hb.size _, ⟨fun v hv => ?_, fun v hv => ?_⟩, fun v hv => ?_, fun v hv => ?_⟩
      · rw [updV_ne G _ (by omega)] at hv; exact (hR.1.1 v hv).stay bA
      · rw [updV_ne G _ (by omega)] at hv; exact (hR.1.2 v hv).stay bA
      · rw [updV_eq] at hv; cases hv; exact ⟨_, l, rfl, hb.size, has_new0, (hol.sl HFL.out).alloc _⟩
      · rw [updV_ne G _ (by omega)] at hv; exact (hR.2.2 v hv).stay bA
    · cases ho
      intro G w' hG hGn hdep hb hR
      refine ⟨wanted_put (by kernel_rfl) hGn rfl, gives_none (by kernel_rfl) hGn ?_⟩
      unfold gives
      simp [go_sem]
      refine (RP.out w' hb).mono ?_
      rintro r w'' ⟨l, rfl, hol, hbb⟩
      refine ⟨_, rfl, hb.trans (hbb.mono hb.size), ⟨fun v hv => ?_, fun v hv => ?_⟩, fun v hv => ?_, fun v hv => ?_⟩
      · rw [updV_ne G _ (by omega)] at hv; exact (hR.1.1 v hv).stay hbb
      · rw [updV_eq] at hv; cases hv; exact ⟨l, rfl, hol.lower hb.size⟩
      · rw [updV_ne G _ (by omega)] at hv; exact (hR.2.1 v hv).stay hbb
      · rw [updV_ne G _ (by omega)] at hv; exact (hR.2.2 v hv).stay hbb
    · cases ho
      intro G w' hG hGn hdep hb hR
      obtain ⟨v21, hv21⟩ := Option.ne_none_iff_exists'.1 (hdep 21 (by simp) (by kernel_rfl))
      obtain ⟨l, rfl, hol⟩ := hR.1.2 v21 hv21
      refine ⟨wanted_put (by kernel_rfl) hGn rfl, gives_one (k := 21) (by kernel_rfl) hGn (by omega) hv21 ?_⟩
      unfold gives
      simp [go_sem, dstAt]
      have bA : Below w'.heap.size w' (w'.alloc (.cells #[.bool false, l] 24)) := (Below.refl _ _).alloc (Nat.le_refl _) _
      refine ⟨hb.alloc hb.size _, ⟨fun v hv => ?_, fun v hv => ?_⟩, fun v hv => ?_, fun v hv => ?_⟩
      · rw [updV_ne G _ (by omega)] at hv; exact (hR.1.1 v hv).stay bA
      · rw [updV_ne G _ (by omega)] at hv; exact (hR.1.2 v hv).stay bA
      · rw [updV_ne G _ (by omega)] at hv; exact (hR.2.1 v hv).stay bA
      · rw [updV_eq] at hv; cases hv; exact ⟨_, l, rfl, hb.size, has_new0, (hol.sl HFL.out).alloc _⟩
  · intro G w3 hb3 hR hG hN
    obtain ⟨v16, e16⟩ := hG 16 (by simp)
    obtain ⟨v17, e17⟩ := hG 17 (by simp)
    obtain ⟨v21, e21⟩ := hG 21 (by simp)
    obtain ⟨v22, e22⟩ := hG 22 (by simp)
    obtain ⟨l1, rfl, _⟩ := hR.1.1 v16 e16
    obtain ⟨l2, rfl, _⟩ := hR.1.2 v21 e21
    obtain ⟨la, ya⟩ := (hR.2.1 v17 e17).ysl
    obtain ⟨lb, yb⟩ := (hR.2.2 v22 e22).ysl
    have nn : ∀ j, j < 16 → G j = none := fun j hj => hN j (by simp; omega)
    have PY := Lib.hid (r8_polys ya yb rfl one_alike)
    have BB : Hid (Below w.heap.size w w3) := Lib.hid (HBL.out.trans (hb3.mono HBL.out.size))
    simp only [putV, dstAt, e16, e17, e21, e22, nn 0 (by decide), nn 1 (by decide), nn 2 (by decide), nn 3 (by decide), nn 4 (by decide), nn 5 (by decide), nn 6 (by decide), nn 7 (by decide), nn 8 (by decide), nn 9 (by decide), nn 10 (by decide), nn 11 (by decide), nn 12 (by decide), nn 13 (by decide), nn 14 (by decide), nn 15 (by decide), hN 18 (by simp), hN 19 (by simp), hN 20 (by simp), List.drop_succ_cons, List.drop_zero, List.getElem?_cons_succ, List.getElem?_cons_zero, Option.bind_some]
    clear hb3 hR hG hN nn ya yb e16 e17 e21 e22
    go_wp2_with fail
    refine PY.out.mono ?_
    rintro e w4 ⟨rfl, hq4⟩
    have B4 := Lib.hid (BB.out.trans (hq4.mono BB.out.size))
    clear hq4
    go_wp2
    go_ret
    exact ⟨rfl, B4.out⟩

end Go.Proofs.Ytddcjdhlmlhgdaa

namespace Go.Proofs.Ytddcjdhlmlhgdaa
open Go Go.RowKit
open M

def kn9 : List Pt := [⟨0, 0⟩, ⟨16, 0⟩]
theorem kn9_c : cutL false kn9 2 5 = [⟨2, 0⟩, ⟨5, 0⟩] := by decide +kernel
theorem kn9_n : cutL false kn9 5 5 = [] := by decide +kernel
theorem kn9_l : lengthL false kn9 = 16 := by decide +kernel
theorem kn9_o : onP ⟨0, 0⟩ ⟨8, 0⟩ 9 4 = ⟨8, 0⟩ := by decide +kernel
theorem kn9_s : sidesN false 2 = 1 := by decide

set_option maxRecDepth 100000 in
set_option maxHeartbeats 2000000 in
theorem known9 (w : World) : Calls Try.prog 11 #[] w fun r w' => r = .returned (.bool true) ∧ Below w.heap.size w w' := by
  obtain ⟨B, hB⟩ : ∃ B, w.heap.size = B := ⟨_, rfl⟩
  obtain ⟨W, hW⟩ : ∃ W, (w.alloc (.cells #[.int .i64 0, .int .i64 0, .int .i64 16, .int .i64 0] 32)).alloc (.cells #[.bool false, .slice (some ⟨B, 0, none⟩) 2 2] 24) = W := ⟨_, rfl⟩
  have k0 : Has W B #[.int .i64 0, .int .i64 0, .int .i64 16, .int .i64 0] 32 := by rw [← hW]; exact (has_new hB).alloc _
  have k1 : Has W (B + 1) #[.bool false, .slice (some ⟨B, 0, none⟩) 2 2] 24 := by rw [← hW]; exact has_new (by simp [hB])
  have hs : Psl W (.slice (some ⟨B, 0, none⟩) 2 2) kn9 := psl_lit (ps := kn9) 2 2 rfl (by decide) k0 rfl
  have bW : Below B w W := by rw [← hW]; exact ((Below.refl _ _).alloc (by omega) _).alloc (by simp; omega) _
  have HS := Lib.hid (fun (w' : World) (hb : Below W.heap.size W w') => hs.below hb (Nat.le_refl _))
  have K1 := Lib.hid k1
  have BW := Lib.hid bW
  have HW := Lib.hid hW
  have HB := Lib.hid hB
  have P1 : Hid (∀ w', Below W.heap.size W w' → Calls Try.prog 15 #[.agg #[.bool false, .slice (some ⟨B, 0, none⟩) 2 2], .int .i64 2, .int .i64 5] w' (Gives w' false [⟨2, 0⟩, ⟨5, 0⟩])) := Lib.hid (fun w' hb => by have := a_part false 2 5 (HS.out w' hb) (by decide); rw [kn9_c] at this; exact this)
  have P2 : Hid (∀ w', Below W.heap.size W w' → Calls Try.prog 15 #[.agg #[.bool false, .slice (some ⟨B, 0, none⟩) 2 2], .int .i64 5, .int .i64 5] w' (Gives w' false [])) := Lib.hid (fun w' hb => by have := a_part false 5 5 (HS.out w' hb) (by decide); rw [kn9_n] at this; exact this)
  have LE : Hid (∀ w', Below W.heap.size W w' → Calls Try.prog 14 #[.agg #[.bool false, .slice (some ⟨B, 0, none⟩) 2 2]] w' fun r w'' => r = .returned (.int .i64 16) ∧ Below w'.heap.size w' w'') := Lib.hid (fun w' hb => by have := a_length false (HS.out w' hb); rw [kn9_l] at this; exact this)
  have SI : Hid (∀ w', Calls Try.prog 16 #[.agg #[.bool false, .slice (some ⟨B, 0, none⟩) 2 2]] w' fun r w'' => r = .returned (.int .i64 1) ∧ Below w'.heap.size w' w'') := Lib.hid (fun w' => by have := a_sides false (some ⟨B, 0, none⟩) 2 2 (by decide) w'; rw [kn9_s] at this; exact this)
  have ON : Hid (∀ w', Calls Try.prog 12 #[.agg #[.int .i64 0, .int .i64 0], .agg #[.int .i64 8, .int .i64 0], .int .i64 9, .int .i64 4] w' fun r w'' => r = .returned (.agg #[.int .i64 8, .int .i64 0]) ∧ Below w'.heap.size w' w'') := Lib.hid (fun w' => by have := a_on ⟨0, 0⟩ ⟨8, 0⟩ 9 4 w'; rw [kn9_o] at this; exact this)
  clear hs bW hW k0 k1
  go_enter Try.func11, Try.ntmps11
  go_upto_region 2 with fail
  rw [HW.out]
  clear hB
  have a0 := K1.out.cell 0 _ rfl
  have a1 := K1.out.cell 1 _ rfl
  go_wp2_with fail
  refine (P1.out _ (Below.refl _ _)).mono ?_
  rintro e w1 ⟨v1, rfl, ho1, hb1⟩
  obtain ⟨g1, cap1, rfl⟩ := ho1.shape (by decide)
  obtain ⟨V, hV⟩ : ∃ V, w1.alloc (.cells #[.bool false, .slice (some ⟨g1, 0, none⟩) 2 cap1] 24) = V := ⟨_, rfl⟩
  obtain ⟨gp, hgp⟩ : ∃ g, w1.heap.size = g := ⟨_, rfl⟩
  have kp : Has V gp #[.bool false, .slice (some ⟨g1, 0, none⟩) 2 cap1] 24 := by rw [← hV]; exact has_new hgp
  have oV : Pown V W.heap.size (.slice (some ⟨g1, 0, none⟩) 2 cap1) [⟨2, 0⟩, ⟨5, 0⟩] := by rw [← hV]; exact ho1.alloc _
  have bV : Below W.heap.size W V := by rw [← hV]; exact hb1.alloc hb1.size _
  have KP := Lib.hid kp
  have OV := Lib.hid oV
  have BV := Lib.hid bV
  have HV := Lib.hid hV
  have kk := K1.out.below bV K1.out.lt
  clear kp oV bV hV ho1 hb1 a0 a1
  go_upto_region 3 with fail
  rw [HV.out]
  clear hgp
  have a0 := kk.cell 0 _ rfl
  have a1 := kk.cell 1 _ rfl
  clear kk
  go_wp2_with fail
  refine (LE.out _ BV.out).mono ?_
  rintro e w2 ⟨rfl, hb2⟩
  have B2 := Lib.hid (BV.out.trans (hb2.mono BV.out.size))
  have D2 := Lib.hid hb2
  have kk := K1.out.below B2.out K1.out.lt
  have a0 := kk.cell 0 _ rfl
  have a1 := kk.cell 1 _ rfl
  clear kk hb2
  go_wp2_with fail
  refine (SI.out _).mono ?_
  rintro e w3 ⟨rfl, hb3⟩
  have B3 := Lib.hid (B2.out.trans (hb3.mono B2.out.size))
  have D3 := Lib.hid (D2.out.trans (hb3.mono D2.out.size))
  have kk := K1.out.below B3.out K1.out.lt
  have a0 := kk.cell 0 _ rfl
  have a1 := kk.cell 1 _ rfl
  have kq := KP.out.below D3.out KP.out.lt
  have p0 := kq.cell 0 _ rfl
  have p1 := kq.cell 1 _ rfl
  have r1 := (OV.out.below D3.out (Nat.le_refl _)).row (by decide) (by decide)
  have x0 := r1.c0 0 (by decide)
  have x1 := r1.c0 1 (by decide)
  simp only [Nat.zero_add, Nat.reduceMul, Nat.zero_mul, pt_cons, pt_zero] at x0 x1
  clear kk kq r1 hb3
  go_wp2_with fail
  refine (P2.out _ B3.out).mono ?_
  rintro e w4 ⟨v4, rfl, ho4, hb4⟩
  obtain ⟨ao4, cap4, ex⟩ := ho4.len
  simp only [List.length_nil] at ex
  subst ex
  have fd : ∀ w : World, (Instr.field 24 (.agg #[.bool false, .slice ao4 0 cap4]) 1).run Try.prog w = .ok (.slice ao4 0 cap4) w := fun _ => by kernel_rfl
  have B4 := Lib.hid (B3.out.trans (hb4.mono B3.out.size))
  clear ho4 hb4
  go_wp2_with fail
  refine (ON.out _).mono ?_
  rintro e w5 ⟨rfl, hb5⟩
  have B5 := Lib.hid (B4.out.trans (hb5.mono B4.out.size))
  clear hb5
  go_wp2
  go_ret
  exact ⟨rfl, by rw [HB.out]; exact BW.out.trans (B5.out.mono (by have := BW.out.size; have := HB.out; omega))⟩

end Go.Proofs.Ytddcjdhlmlhgdaa

namespace Go.Proofs.Ytddcjdhlmlhgdaa
open Go Go.RowKit
open M

/-- A poly that came in: at most twelve places, or more of which the first twelve are told. -/
def Yarg (w : World) (v : Value) (ps : List Pt) : Prop := ∃ c : Bool, (∃ sl, v = .agg #[.bool c, sl] ∧ Psl w sl ps ∧ ps.length ≤ 12) ∨
  ∃ g o len cap, v = .agg #[.bool c, .slice (some ⟨g, o, none⟩) len cap] ∧ 12 < len ∧ len ≤ 9223372036854775807 ∧ len ≤ cap ∧ Psl w (.slice (some ⟨g, o, none⟩) 12 cap) ps ∧ ps.length = 12
/-- The one big chain of the law, whatever the two polys are. -/
structure Tel (B gp : Nat) (c rc : Bool) (pv rv : Value) (ps rp : List Pt) (a b : Pt) (U : World) : Prop where
  kr : Has U B #[.bool rc, rv] 24
  ka : Has U (B + 1) (pCells a) 32
  kb : Has U (B + 1 + 1) (pCells b) 32
  kp : Has U gp #[.bool c, pv] 24
  sp : Psl U pv ps
  sr : Psl U rv rp
  lp : ps.length ≤ 900
  lr : rp.length ≤ 900

set_option maxRecDepth 100000 in
set_option maxHeartbeats 8000000 in
theorem arcTells_walk {w : World} (l : Value) (_ : Unit) (f t : Int) (raw : Value) (rp : List Pt) (ax ay bx bY d ln : Int) (hN : Nums w l) (hR : Yarg w raw rp) :
    Calls Try.prog 4 #[l, .int .i64 f, .int .i64 t, raw, .agg #[.int .i64 ax, .int .i64 ay], .agg #[.int .i64 bx, .int .i64 bY], .int .i64 d, .int .i64 ln] w fun r w' => r = .returned (.bool true) ∧ Below w.heap.size w w' := by
  obtain ⟨B, hB⟩ : ∃ B, w.heap.size = B := ⟨_, rfl⟩
  obtain ⟨rc, rsl, hraw⟩ : ∃ c sl, raw = .agg #[.bool c, sl] := by
    obtain ⟨c, h | ⟨g, o, len, cap, h, _⟩⟩ := hR
    · obtain ⟨sl, h, _⟩ := h; exact ⟨c, sl, h⟩
    · exact ⟨c, _, h⟩
  have hsl : ∃ ao n cap, rsl = .slice ao n cap := by
    obtain ⟨c, h | ⟨g, o, len, cap, h, _⟩⟩ := hR
    · obtain ⟨sl, h, hp, _⟩ := h
      rw [hraw] at h
      simp at h
      obtain ⟨_, rfl⟩ := h
      obtain ⟨ao, cap, e, _⟩ := hp
      exact ⟨_, _, _, e⟩
    · rw [hraw] at h
      simp at h
      exact ⟨_, _, _, h.2⟩
  obtain ⟨ra, rn, rcap, rfl⟩ := hsl
  subst hraw
  obtain ⟨W, hW⟩ : ∃ W, (((w.alloc (.cells #[.bool rc, .slice ra rn rcap] 24)).alloc (.cells (pCells ⟨ax, ay⟩) 32)).alloc (.cells (pCells ⟨bx, bY⟩) 32)).alloc (.cells #[l, .int .i64 0] 36) = W := ⟨_, rfl⟩
  have hb0 : Below w.heap.size w W := by rw [← hW]; exact ((((Below.refl _ _).alloc (Nat.le_refl _) _).alloc (by simp) _).alloc (by simp; omega) _).alloc (by simp; omega) _
  have k0 : Has W B #[.bool rc, .slice ra rn rcap] 24 := by rw [← hW]; exact (((has_new hB).alloc _).alloc _).alloc _
  have k1 : Has W (B + 1) (pCells ⟨ax, ay⟩) 32 := by rw [← hW]; exact ((has_new (by simp [hB])).alloc _).alloc _
  have k2 : Has W (B + 1 + 1) (pCells ⟨bx, bY⟩) 32 := by rw [← hW]; exact (has_new (by simp [hB])).alloc _
  have T1 : Tp W (B + 1 + 1 + 1) l := tp_start hN (by rw [← hW]; exact has_new (by simp [hB])) hb0 (by omega)
  have sz0 : W.heap.size = B + 1 + 1 + 1 + 1 := by rw [← hW]; simp [hB]
  obtain ⟨a1, n1, c1, rfl⟩ := hN.shape
  have RW := Lib.hid hR
  have HB := Lib.hid hB
  have HW := Lib.hid hW
  have HB0 := Lib.hid hb0
  have K0 := Lib.hid k0
  have K1 := Lib.hid k1
  have K2 := Lib.hid k2
  have PL := Lib.hid (l9_poly _ _ _ T1)
  have SZ := Lib.hid sz0
  clear hb0 k0 k1 k2 T1 hW hN hR sz0
  go_enter Try.func4, Try.ntmps4
  go_wp2_with fail
  rw [HW.out]
  clear hB
  refine PL.out.mono ?_
  rintro e w1 ⟨c, pl, ps, rfl, h12, sm, ho, tp1, hg1⟩
  have sl1 := ho.sl (by omega)
  obtain ⟨ao, cap, hv⟩ := ho.len
  obtain ⟨N, hN⟩ : ∃ N, ps.length = N := ⟨_, rfl⟩
  rw [hN] at hv
  subst hv
  obtain ⟨gp, hgp⟩ : ∃ g, w1.heap.size = g := ⟨_, rfl⟩
  obtain ⟨V, hV⟩ : ∃ V, w1.alloc (.cells #[.bool c, .slice ao N cap] 24) = V := ⟨_, rfl⟩
  have nB : Value.ownBlock (.slice ao N cap) ≠ some B := fun e => by have := (ho.base B e).1; have := SZ.out; omega
  have lgp : B + 1 + 1 + 1 < gp := by have := hg1.size; have := SZ.out; omega
  have KR : Has V B #[.bool rc, .slice ra rn rcap] 24 := by rw [← hV]; exact (has_grown K0.out hg1 (by omega)).alloc _
  have KA : Has V (B + 1) (pCells ⟨ax, ay⟩) 32 := by rw [← hV]; exact (has_grown K1.out hg1 (by omega)).alloc _
  have KB : Has V (B + 1 + 1) (pCells ⟨bx, bY⟩) 32 := by rw [← hV]; exact (has_grown K2.out hg1 (by omega)).alloc _
  have KP : Has V gp #[.bool c, .slice ao N cap] 24 := by rw [← hV]; exact has_new hgp
  have SP : Psl V (.slice ao N cap) ps := by rw [← hV]; exact sl1.alloc _
  have bV : Below w.heap.size w V := by
    rw [← hV]
    have q := HB.out
    have q2 := SZ.out
    have q3 := hg1.size
    exact (below_on HB0.out hg1 (by omega) (by omega)).alloc (by omega) _
  have L12 : Hid (ps.length ≤ 900) := Lib.hid (by omega)
  have XR := Lib.hid KR
  have XA := Lib.hid KA
  have XB := Lib.hid KB
  have XP := Lib.hid KP
  have XS := Lib.hid SP
  have BV := Lib.hid bV
  have HV := Lib.hid hV
  have NB := Lib.hid nB
  have r1 := KR.cell 1 _ rfl
  have fr := has_fro KR
  clear KR KA KB KP SP bV hV nB sl1 ho tp1 hg1 sm h12 hN PL K0 K1 K2 HB0
  go_upto_region 2 with fail
  rw [HV.out]
  clear hgp
  obtain ⟨c', hh | ⟨g, o, len, cap2, hh, h1, h2, h3, hp, h4⟩⟩ := RW.out
  · obtain ⟨sl, hh, hp, h4⟩ := hh
    simp at hh
    obtain ⟨rfl, rfl⟩ := hh
    have hrn : rp.length = rn := by
      obtain ⟨ao', cap', e, _⟩ := hp
      simp at e
      exact e.2.1.symm
    have o1 : ¬ (12 : Int) < rn := by omega
    have o2 : (rn : Int) ≤ 12 := by omega
    have SR := hp.below BV.out (Nat.le_refl _)
    have TL : Hid (Tel B gp c rc (.slice ao N cap) (.slice ra rn rcap) ps rp ⟨ax, ay⟩ ⟨bx, bY⟩ V) := Lib.hid ⟨XR.out, XA.out, XB.out, XP.out, XS.out, SR, L12.out, by omega⟩
    obtain ⟨U, hU⟩ : ∃ U, V = U := ⟨_, rfl⟩
    subst hU
    have BU := BV
    clear hp h4 SR hrn
    go_upto_region 4 with fail
    have SPP := Lib.hid (fun (x y : Int) (z : Later V) => l9_same c x y (TL.out.sp.later z) TL.out.lp)
    have SRR := Lib.hid (fun (x y : Int) (z : Later V) => l9_same rc x y (TL.out.sr.later z) TL.out.lr)
    have q0 := fun z => Later.read TL.out.kr 0 _ rfl z
    have q1 := fun z => Later.read TL.out.kr 1 _ rfl z
    have q2 := fun z => Later.read TL.out.ka 0 _ rfl z
    have q3 := fun z => Later.read TL.out.ka 1 _ rfl z
    have q4 := fun z => Later.read TL.out.kb 0 _ rfl z
    have q5 := fun z => Later.read TL.out.kb 1 _ rfl z
    have q6 := fun z => Later.read TL.out.kp 0 _ rfl z
    have q7 := fun z => Later.read TL.out.kp 1 _ rfl z
    clear r1 fr
    refine wp_region_class (C := fun w' => ∃ z : Later V, w' = z.to) (by kernel_rfl) (by kernel_rfl) ⟨⟨_, below_drew (Below.refl _ _)⟩, rfl⟩ ?_
    try simp only [List.append_eq, List.cons_append, List.nil_append]
    repeat (go_big_quiet_step (first | (go_at_call_of 10 cap; exact Later.calls (SPP.out _ _ _)) | (go_at_call_of 10 rcap; exact Later.calls (SRR.out _ _ _)) | (go_at_call 12; exact Later.calls (a_on ⟨ax, ay⟩ ⟨bx, bY⟩ _ _ _)) | (go_at_call 13; exact Later.calls (r9_on ⟨ax, ay⟩ ⟨bx, bY⟩ _ _ _)) | (go_at_call 11; exact Later.calls (known9 _))))
    refine wpQuiet_nil ?_
    rintro _ ⟨z, rfl⟩
    have BZ : Hid (Below w.heap.size w z.to) := Lib.hid (BU.out.trans (z.below.mono BU.out.size))
    clear q0 q1 q2 q3 q4 q5 q6 q7
    go_wp2
    go_ret
    exact ⟨rfl, BZ.out⟩
  · simp at hh
    obtain ⟨rfl, rfl, rfl, rfl⟩ := hh
    have o1 : (12 : Int) < rn := by omega
    have o2 : (rn : Int) ≤ 9223372036854775807 := by omega
    have o3 : (rn : Int) ≤ rcap := by omega
    have o4 : (12 : Int) ≤ rcap := by omega
    have o5 : 12 ≤ rcap := by omega
    have hgb : g ≠ B := by
      obtain ⟨ao', cap', e, _, hr⟩ := hp
      obtain ⟨g', o', e2, row⟩ := hr (by omega)
      simp at e
      rw [← e.1] at e2
      simp at e2
      have := row.lt (by omega)
      have := HB.out
      omega
    obtain ⟨U, hU⟩ : ∃ U, V.setCell ⟨B, 1, none⟩ (.slice (some ⟨g, o, none⟩) 12 rcap) = U := ⟨_, rfl⟩
    have hgr : V.grownBy U (some B) := by rw [← hU]; exact grownBy_set (World.grownBy.refl _ _) _ _
    have SR : Psl U (.slice (some ⟨g, o, none⟩) 12 rcap) rp := (hp.below BV.out (Nat.le_refl _)).grown hgr (fun k hk e => by have e' : some g = some k := e; simp at hk e'; omega)
    have TL : Hid (Tel B gp c rc (.slice ao N cap) (.slice (some ⟨g, o, none⟩) 12 rcap) ps rp ⟨ax, ay⟩ ⟨bx, bY⟩ U) := Lib.hid ⟨by
      rw [← hU]
      have := has_set XR.out 1 (.slice (some ⟨g, o, none⟩) 12 rcap)
      simpa using this, has_grown XA.out hgr (by omega), has_grown XB.out hgr (by omega), has_grown XP.out hgr (by omega), XS.out.grown hgr (fun k hk e => by simp at hk; subst hk; exact NB.out e), SR, L12.out, by omega⟩
    have BU : Hid (Below w.heap.size w U) := Lib.hid (by rw [← hU]; exact BV.out.setCell (show w.heap.size ≤ B by have := HB.out; omega) _)
    have HU := Lib.hid hU
    clear hp h1 h2 h3 h4 SR hgr hU hgb
    go_upto_region 4 with fail
    rw [HU.out]
    have SPP := Lib.hid (fun (x y : Int) (z : Later U) => l9_same c x y (TL.out.sp.later z) TL.out.lp)
    have SRR := Lib.hid (fun (x y : Int) (z : Later U) => l9_same rc x y (TL.out.sr.later z) TL.out.lr)
    have q0 := fun z => Later.read TL.out.kr 0 _ rfl z
    have q1 := fun z => Later.read TL.out.kr 1 _ rfl z
    have q2 := fun z => Later.read TL.out.ka 0 _ rfl z
    have q3 := fun z => Later.read TL.out.ka 1 _ rfl z
    have q4 := fun z => Later.read TL.out.kb 0 _ rfl z
    have q5 := fun z => Later.read TL.out.kb 1 _ rfl z
    have q6 := fun z => Later.read TL.out.kp 0 _ rfl z
    have q7 := fun z => Later.read TL.out.kp 1 _ rfl z
    clear r1 fr
    refine wp_region_class (C := fun w' => ∃ z : Later U, w' = z.to) (by kernel_rfl) (by kernel_rfl) ⟨⟨_, below_drew (Below.refl _ _)⟩, rfl⟩ ?_
    try simp only [List.append_eq, List.cons_append, List.nil_append]
    repeat (go_big_quiet_step (first | (go_at_call_of 10 cap; exact Later.calls (SPP.out _ _ _)) | (go_at_call_of 10 rcap; exact Later.calls (SRR.out _ _ _)) | (go_at_call 12; exact Later.calls (a_on ⟨ax, ay⟩ ⟨bx, bY⟩ _ _ _)) | (go_at_call 13; exact Later.calls (r9_on ⟨ax, ay⟩ ⟨bx, bY⟩ _ _ _)) | (go_at_call 11; exact Later.calls (known9 _))))
    refine wpQuiet_nil ?_
    rintro _ ⟨z, rfl⟩
    have BZ : Hid (Below w.heap.size w z.to) := Lib.hid (BU.out.trans (z.below.mono BU.out.size))
    clear q0 q1 q2 q3 q4 q5 q6 q7
    go_wp2
    go_ret
    exact ⟨rfl, BZ.out⟩

end Go.Proofs.Ytddcjdhlmlhgdaa

namespace Go.Proofs.Ytddcjdhlmlhgdaa
open Go.RowKit Go.ChangeShapes Go.WideShapes Go.Deep
open M

section
variable {H : Type} {enc : TypeId × Value → H} {w : World} {base : Nat} {spare : Nat → Bool} {held : Bool}
theorem cells7_i64 : Try.prog.cellsOf 2 = 1 := by kernel_rfl
theorem cells7_bool : Try.prog.cellsOf 4 = 1 := by kernel_rfl
theorem cells7_pts : Try.prog.cellsOf 22 = 1 := by kernel_rfl
theorem cells7_pt : Try.prog.cellsOf 32 = 2 := by kernel_rfl
theorem cells7_poly : Try.prog.cellsOf 24 = 2 := by kernel_rfl
theorem some7_at {α : Type} {xs : List α} {i n : Nat} (h : xs.length = n) (hi : i < n) : ∃ x, xs[i]? = some x := ⟨_, List.getElem?_eq_getElem (by omega)⟩
theorem int7_one {t : TypeId} {n : Nat} {c : Value} {x : Option (DataW H × List MemPlace)} (ht : Try.prog.underlying t = some (.int .i64)) (h : DataW.trod enc Try.prog w base spare held n t [c] = x) (hx : ∃ y, x = some y) : ∃ k : Int, c = .int .i64 k := by
  obtain ⟨y, rfl⟩ := hx
  obtain ⟨k, hk, _⟩ := DataW.trod_int ht h
  exact ⟨k, by simpa using hk⟩
set_option maxRecDepth 100000 in
theorem pt_cells {n : Nat} {cs : List Value} {x : DataW H × List MemPlace} (h : DataW.trod enc Try.prog w base spare held n 32 cs = some x) : ∃ p : Pt, cs = pl p := by
  obtain ⟨xs, m, _, _, hlen, hxl, hf⟩ := DataW.trod_struct Try.underlying32 h
  rw [cells7_pt] at hlen
  match cs, hlen with
  | [c0, c1], _ =>
    have f0 : DataW.trod enc Try.prog w base spare held m 2 (([c0, c1].drop 0).take (Try.prog.cellsOf 2)) = xs[0]? := hf 0 _ rfl
    have f1 : DataW.trod enc Try.prog w base spare held m 2 (([c0, c1].drop 1).take (Try.prog.cellsOf 2)) = xs[1]? := hf 1 _ rfl
    rw [cells7_i64] at f0 f1
    obtain ⟨a, rfl⟩ := int7_one Try.underlying2 f0 (some7_at hxl (by decide))
    obtain ⟨b, rfl⟩ := int7_one Try.underlying2 f1 (some7_at hxl (by decide))
    exact ⟨⟨a, b⟩, rfl⟩
set_option maxRecDepth 100000 in
theorem open_poly {r : Reach} {b0 : Nat} {v : Value} {d : DataW H} {p : List MemPlace} (hv : Value.okWide Try.prog w r b0 24 v) (h : DataW.Trod enc Try.prog w base (fun _ => true) held 24 v d p) : ∃ ps, Yarg w v ps := by
  obtain ⟨⟨L⟩, rfl, hs⟩ := okWide_struct Try.underlying24 hv
  rw [cells7_poly] at hs
  have hl2 : L.length = 2 := by simpa using hs
  obtain ⟨fuel, hf⟩ := h
  match L, hl2 with
  | [c0, c1], _ =>
    have hf' : DataW.trod enc Try.prog w base (fun _ => true) held fuel 24 [c0, c1] = some (d, p) := hf
    obtain ⟨xs, m, _, _, _, hxl, hg⟩ := DataW.trod_struct Try.underlying24 hf'
    have f0 : DataW.trod enc Try.prog w base (fun _ => true) held m 4 (([c0, c1].drop 0).take (Try.prog.cellsOf 4)) = xs[0]? := hg 0 _ rfl
    have f1 : DataW.trod enc Try.prog w base (fun _ => true) held m 22 (([c0, c1].drop 1).take (Try.prog.cellsOf 22)) = xs[1]? := hg 1 _ rfl
    rw [cells7_bool] at f0
    rw [cells7_pts] at f1
    obtain ⟨y0, hy0⟩ := some7_at (i := 0) hxl (by decide)
    obtain ⟨y1, hy1⟩ := some7_at (i := 1) hxl (by decide)
    rw [hy0] at f0
    rw [hy1] at f1
    obtain ⟨c, hc, _⟩ := DataW.trod_bool Try.underlying4 f0
    have hc0 : c0 = .bool c := by simpa using hc
    subst hc0
    rcases open_slice Try.underlying22 (show DataW.trod enc Try.prog w base (fun _ => true) held m 22 [c1] = some y1 from f1) with ⟨hc, _⟩ | ⟨a, len, cap, m', n, D, Pl, hc, _, hl, hm, hmm, _, hi⟩
    · have hc1 : c1 = .slice none 0 0 := by simpa using hc
      subst hc1
      exact ⟨[], c, Or.inl ⟨_, rfl, psl_nil _ _ _, by simp⟩⟩
    · have hc1 : c1 = .slice (some a) len cap := by simpa using hc
      subst hc1
      rw [if_pos rfl] at hmm
      subst hmm
      by_cases h0 : len = 0
      · subst h0
        exact ⟨[], c, Or.inl ⟨_, rfl, psl_nil _ _ _, by simp⟩⟩
      · have key : ∀ i, i < len → ∃ k : Pt, ∀ j u, (pl k)[j]? = some u → w.cell? (a.add (i * 2 + j)) = some u := by
          intro i hil
          obtain ⟨cs', hcs, ht⟩ := hi i (by omega)
          obtain ⟨k, rfl⟩ := pt_cells ht
          rw [cells7_pt] at hcs
          obtain ⟨_, hcl, hat⟩ := World.cells?_some hcs
          refine ⟨k, fun j u hu => ?_⟩
          have hj : j < 2 := by
            have := (List.getElem?_eq_some_iff.1 hu).1
            simpa [pl] using this
          rw [← Go.Deep.add_add, hat j hj, hu]
        obtain ⟨f, hf'⟩ := choose_lt key
        have hspot : a.spot = none := by
          have := hf' 0 (by omega) 0 _ rfl
          simpa [Addr.add] using World.cell?_spot this
        obtain ⟨g, o, sp⟩ := a
        simp only at hspot
        subst hspot
        have row : ∀ M, M ≤ len → M ≤ 12 → Prow w g o ((List.range M).map f) := by
          intro M hM h12
          refine prow_of (by simp; omega) fun j u hu => ?_
          have hj : j < M * 2 := by
            have := (List.getElem?_eq_some_iff.1 hu).1
            rw [pls_length] at this
            simpa using this
          have e1 : j = j / 2 * 2 + j % 2 := by omega
          rw [e1] at hu ⊢
          rw [pls_at (by simp; omega) (by omega)] at hu
          rw [pt_mapIdx f (by omega)] at hu
          have := hf' (j / 2) (by omega) (j % 2) u hu
          rwa [Addr.add_lit] at this
        have h63 : len ≤ 9223372036854775807 := by
          have h := hm
          simp [maxLen] at h
          omega
        by_cases h12 : len ≤ 12
        · exact ⟨(List.range len).map f, c, Or.inl ⟨_, rfl, ⟨some ⟨g, o, none⟩, _, by simp; rfl, by simp; omega, fun _ => ⟨g, o, rfl, row len (Nat.le_refl _) h12⟩⟩, by simpa using h12⟩⟩
        · exact ⟨(List.range 12).map f, c, Or.inr ⟨g, o, len, _, rfl, by omega, h63, by omega, ⟨some ⟨g, o, none⟩, _, by simp; rfl, by simp, fun _ => ⟨g, o, rfl, row 12 (by omega) (Nat.le_refl _)⟩⟩, by simp⟩⟩
end

end Go.Proofs.Ytddcjdhlmlhgdaa

namespace Go.Proofs.Ytddcjdhlmlhgdaa.arcTells
open Go.ChangeShapes Go.WideShapes Go.ChangeAt Go.RowKit

theorem post_below {H : Type} {enc : TypeId × Value → H} {P : Program} {f : Func} {s : ChangeSpec} {apart fresh handsOn : Bool} {W V : World} {args : Array Value} {v : Value} {ds gs : List (DataW H)} {before pa pv : List MemPlace}
    (hW : DataW.Whole enc P f.params.toList s.vars apart W args.toList ds gs before)
    (hres : ∀ (b : Nat) (sp : Nat → Bool) (hd : Bool), DataW.TrodAll enc P V b sp hd f.resultTypes.toList (v.resultList f.resultTypes.size) (s.fn H (ds ++ gs)).results [])
    (hargs : ∀ sp : Nat → Bool, (∀ p ∈ before, sp p.block = true) → DataW.TrodAll enc P V 0 sp true f.params.toList args.toList (s.fn H (ds ++ gs)).args pa)
    (hvars : ∀ sp : Nat → Bool, (∀ p ∈ before, sp p.block = true) → DataW.TrodVars enc P V sp s.vars (s.fn H (ds ++ gs)).vars pv)
    (hps : before = pa ++ pv) (hb : Below W.heap.size W V) : s.post enc P f apart fresh handsOn false W args v V := by
  have hl : ∀ p ∈ before, (fun b => decide (b < W.heap.size)) p.block = true := fun p hp => by simpa using hW.lt p hp
  refine ⟨ds, gs, before, [], pa, pv, hW, hres _ _ _, hargs _ hl, hvars _ hl, World.keptBut_mono (fun p hp => ⟨hp, ?_⟩) (hb.frame (· ∈ before)), fun h => by cases h⟩
  rw [hps, List.mem_append] at hp
  exact Or.inr hp

theorem own : ownKnob Try.prog.godebug = none := by kernel_rfl
theorem laid : laidOutB Try.prog = true := by kernel_rfl

set_option maxRecDepth 100000 in
theorem lifted (os : Os) (started : os.Started) (H : Type) (enc : TypeId × Value → H) :
    ReturnsInHanded {} Try.checked os 4 .any (Rows.arcTellsSpec.pre6 enc Try.prog Try.f4 Rows.arcTellsRow.domain false) (Rows.arcTellsSpec.post enc Try.prog Try.f4 false true false false) := by
  refine returnsInHanded_of_change (C := Try.checked) own started (by kernel_rfl) Try.func4
    (ChangeSpec.witness6 (enc := enc) (C := Try.checked) false ⟨#[], #[.slice none 0 0, .int .i64 0, .int .i64 0, .agg #[.bool false, .slice none 0 0], .agg #[.int .i64 0, .int .i64 0], .agg #[.int .i64 0, .int .i64 0], .int .i64 0, .int .i64 0], []⟩ 8 (by kernel_rfl) (by kernel_rfl) (by kernel_rfl) (by kernel_rfl)) ?_
  intro W base args ds gs before hval0 hW hcnd _
  have hval : ∀ (j : Nat) t v, Try.f4.params[j]? = some t → args[j]? = some v → Value.okWide Try.prog W .any base t v := hval0
  have hW' := hW
  obtain ⟨p, q, hA0, hV, rfl, hfz, hnd⟩ := hW
  have hA : DataW.TrodAll enc Try.prog W 0 (fun _ => true) true Try.f4.params.toList args.toList ds p := hA0
  rw [Try.params4] at hA hval
  obtain ⟨v0, vs0, d0, ds0, p0, q0, hargs, rfl, rfl, h0, r0⟩ := trodAll_cons hA
  obtain ⟨v1, vs1, d1, ds1, p1, q1, rfl, rfl, rfl, h1, r1⟩ := trodAll_cons r0
  obtain ⟨v2, vs2, d2, ds2, p2, q2, rfl, rfl, rfl, h2, r2⟩ := trodAll_cons r1
  obtain ⟨v3, vs3, d3, ds3, p3, q3, rfl, rfl, rfl, h3, r3⟩ := trodAll_cons r2
  obtain ⟨v4, vs4, d4, ds4, p4, q4, rfl, rfl, rfl, h4, r4⟩ := trodAll_cons r3
  obtain ⟨v5, vs5, d5, ds5, p5, q5, rfl, rfl, rfl, h5, r5⟩ := trodAll_cons r4
  obtain ⟨v6, vs6, d6, ds6, p6, q6, rfl, rfl, rfl, h6, r6⟩ := trodAll_cons r5
  obtain ⟨v7, vs7, d7, ds7, p7, q7, rfl, rfl, rfl, h7, r7⟩ := trodAll_cons r6
  obtain ⟨rfl, rfl, rfl⟩ := trodAll_nil r7
  obtain rfl : args = #[v0, v1, v2, v3, v4, v5, v6, v7] := by cases args; simp_all
  obtain ⟨rfl, rfl⟩ := trodVars_none hV
  obtain ⟨a0, w0⟩ := open_tape (hval 0 34 v0 rfl rfl) h0
  obtain ⟨a1, rfl, rfl, rfl, w1⟩ := open_int Try.underlying2 (hval 1 2 v1 rfl rfl) h1
  obtain ⟨a2, rfl, rfl, rfl, w2⟩ := open_int Try.underlying2 (hval 2 2 v2 rfl rfl) h2
  obtain ⟨a3, w3⟩ := open_poly (hval 3 24 v3 rfl rfl) h3
  obtain ⟨a4_0, a4_1, rfl, rfl, rfl, w4_0, w4_1⟩ := open_ints2 Try.underlying32 Try.underlying2 (by kernel_rfl) (by kernel_rfl) (by kernel_rfl) rfl (hval 4 32 v4 rfl rfl) h4
  obtain ⟨a5_0, a5_1, rfl, rfl, rfl, w5_0, w5_1⟩ := open_ints2 Try.underlying32 Try.underlying2 (by kernel_rfl) (by kernel_rfl) (by kernel_rfl) rfl (hval 5 32 v5 rfl rfl) h5
  obtain ⟨a6, rfl, rfl, rfl, w6⟩ := open_int Try.underlying2 (hval 6 2 v6 rfl rfl) h6
  obtain ⟨a7, rfl, rfl, rfl, w7⟩ := open_int Try.underlying2 (hval 7 2 v7 rfl rfl) h7
  clear hA0 hval0
  simp only [List.append_nil] at hW'
  refine (arcTells_walk (w := W) v0 a0 a1 a2 v3 a3 a4_0 a4_1 a5_0 a5_1 a6 a7 w0 w3).mono fun e W' ⟨he, hg⟩ => ?_
  subst he
  exact ⟨_, rfl, post_below (pv := []) hW' (fun _ _ _ => (trodAll_cons_mk (shut_bool Try.underlying4 _) trodAll_mk0)) (fun sp hsp => (trodAll_cons_mk (WideElems.Trod_stays laid (by kernel_rfl) (of_decide_eq_true (by kernel_rfl)) h0 (fun x hx => hg.same (by simpa using hW'.lt x (by simp [hx]))) (fun x hx => hsp x (by simp [hx]))) (trodAll_cons_mk (shut_int Try.underlying2 w1) (trodAll_cons_mk (shut_int Try.underlying2 w2) (trodAll_cons_mk (WideElems.Trod_stays laid (by kernel_rfl) (of_decide_eq_true (by kernel_rfl)) h3 (fun x hx => hg.same (by simpa using hW'.lt x (by simp [hx]))) (fun x hx => hsp x (by simp [hx]))) (trodAll_cons_mk (shut_ints2 Try.underlying32 Try.underlying2 (by kernel_rfl) (by kernel_rfl) (by kernel_rfl) rfl w4_0 w4_1) (trodAll_cons_mk (shut_ints2 Try.underlying32 Try.underlying2 (by kernel_rfl) (by kernel_rfl) (by kernel_rfl) rfl w5_0 w5_1) (trodAll_cons_mk (shut_int Try.underlying2 w6) (trodAll_cons_mk (shut_int Try.underlying2 w7) trodAll_mk0))))))))) (fun _ _ => rfl) (by simp) hg⟩

theorem over : Rows.arcTellsRow.holds Try.pinned (OpenSpec.ofChange Rows.arcTellsSpec) :=
  OpenClaim.holds_of_wide 4 Try.f4 rfl rfl rfl rfl rfl rfl rfl ⟨rfl, rfl, rfl, rfl, rfl⟩ rfl rfl rfl rfl rfl (by kernel_rfl) Try.func4 (by kernel_rfl)
    (of_decide_eq_true (by kernel_rfl)) (by unfold Func.isWrapper; first | (rw [if_pos (by decide +kernel)]; kernel_rfl) | (rw [if_neg (by decide +kernel)]; exact ⟨rfl, rfl⟩))
    (fun os started H enc _ => lifted os started H enc)

end Go.Proofs.Ytddcjdhlmlhgdaa.arcTells
namespace Go.Proofs.Ytddcjdhlmlhgdaa
theorem arcTells_holds : Rows.ArcTellsSaid := arcTells.over
#print axioms arcTells_holds
end Go.Proofs.Ytddcjdhlmlhgdaa
