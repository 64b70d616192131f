/- Contract of mutoscopelaw8.known: it returns true; of the memory nothing that was there turns. -/
import Derived.Test.YtegckonhfdlbbaaF4
namespace Go.Proofs.Ytegckonhfdlbbaa
open Go Go.RowKit
open M

theorem kn8_f : flatL false [⟨0, 0⟩, ⟨0, 0⟩, ⟨8, 0⟩, ⟨8, 0⟩] = [⟨0, 0⟩, ⟨8, 0⟩] := by decide
theorem kn8_h : hfP ⟨-1, 0⟩ ⟨0, 0⟩ = ⟨-1, 0⟩ := by rw [hfP_eq (by unfold Rg In64; simp only; omega) (by unfold Rg In64; simp only; omega)]; rfl

set_option maxRecDepth 100000 in
set_option maxHeartbeats 2000000 in
theorem known8 (w : World) : Calls Try.prog 13 #[] w fun r w' => r = .returned (.bool true) ∧ Below w.heap.size w w' := by
  obtain ⟨B, hB⟩ : ∃ B, w.heap.size = B := ⟨_, rfl⟩
  obtain ⟨W, hW⟩ : ∃ W, w.alloc (.cells #[.int .i64 0, .int .i64 0, .int .i64 0, .int .i64 0, .int .i64 8, .int .i64 0, .int .i64 8, .int .i64 0] 35) = W := ⟨_, rfl⟩
  have k0 : Has W B #[.int .i64 0, .int .i64 0, .int .i64 0, .int .i64 0, .int .i64 8, .int .i64 0, .int .i64 8, .int .i64 0] 35 := by rw [← hW]; exact has_new hB
  have OF := f_of false (psl_lit (ps := [⟨0, 0⟩, ⟨0, 0⟩, ⟨8, 0⟩, ⟨8, 0⟩]) 4 4 rfl (by decide) k0 rfl) (Nat.le_refl 4)
  rw [kn8_f] at OF
  have bW : Below B w W := by rw [← hW]; exact (Below.refl _ _).alloc (by omega) _
  have OFH := Lib.hid OF
  have BW := Lib.hid bW
  have HW := Lib.hid hW
  have HB := Lib.hid hB
  have rg : ∀ x y : Int, -1000 ≤ x → x ≤ 1000 → -1000 ≤ y → y ≤ 1000 → Rg ⟨x, y⟩ := fun x y h1 h2 h3 h4 => by unfold Rg In64; simp only; omega
  have BD := Lib.hid (fun w => f_Bend (a := ⟨0, 0⟩) (b := ⟨0, 0⟩) (c := ⟨80, 0⟩) (d := ⟨80, 0⟩) w (rg _ _ (by omega) (by omega) (by omega) (by omega)) (rg _ _ (by omega) (by omega) (by omega) (by omega)) (rg _ _ (by omega) (by omega) (by omega) (by omega)) (rg _ _ (by omega) (by omega) (by omega) (by omega)))
  clear OF bW hW k0 rg
  go_enter Try.func13, Try.ntmps13
  go_wp2_with fail
  rw [HW.out]
  clear hB
  refine OFH.out.mono ?_
  rintro e w1 ⟨v1, rfl, ho1, hb1⟩
  obtain ⟨g1, cap1, rfl⟩ := ho1.shape (by decide)
  obtain ⟨V, hV⟩ : ∃ V, w1.alloc (.cells #[.bool false, .slice (some ⟨g1, 0, none⟩) 2 cap1] 43) = V := ⟨_, rfl⟩
  obtain ⟨gp, hgp⟩ : ∃ g, w1.heap.size = g := ⟨_, rfl⟩
  have kp : Has V gp #[.bool false, .slice (some ⟨g1, 0, none⟩) 2 cap1] 43 := by rw [← hV]; exact has_new hgp
  have oV : Pown V W.heap.size (.slice (some ⟨g1, 0, none⟩) 2 cap1) [⟨0, 0⟩, ⟨8, 0⟩] := by rw [← hV]; exact ho1.alloc _
  have bV : Below B w V := by rw [← hV]; exact (BW.out.trans (hb1.mono (by have := BW.out.size; have := HB.out; omega))).alloc (by have := BW.out.size; have := hb1.size; have := HB.out; omega) _
  have KP := Lib.hid kp
  have OV := Lib.hid oV
  have BV := Lib.hid bV
  have HV := Lib.hid hV
  clear kp oV bV hV ho1 hb1 OFH BW HW
  go_upto_region 2 with fail
  rw [HV.out]
  clear hgp
  go_wp2_with fail
  refine (BD.out _).mono ?_
  rintro e w2 ⟨g2, cap2, rfl, ho2, hb2⟩
  rw [bendL_length] at ho2 ⊢
  have kp := KP.out.below hb2 KP.out.lt
  have p0 := kp.cell 0 _ rfl
  have p1 := kp.cell 1 _ rfl
  have r1 := (OV.out.below hb2 (Nat.le_refl _)).row (by decide) (by decide)
  have r2 := ho2.row (by rw [bendL_length]; decide) (by rw [bendL_length]; decide)
  have x1 := r1.c0 1 (by decide)
  have x2 := r2.c0 7 (by rw [bendL_length]; decide)
  rw [bendL_last 3] at x2
  simp only [Nat.zero_add, Nat.reduceMul, pt_cons, pt_zero] at x1 x2
  have B2 : Below B w w2 := BV.out.trans (hb2.mono (by have := BV.out.size; have := HB.out; omega))
  have HB2 := Lib.hid B2
  clear kp r1 r2 ho2 hb2 OV KP BV B2
  go_wp2_with fail
  refine (f_Half ⟨-1, 0⟩ ⟨0, 0⟩ _).mono ?_
  rw [kn8_h]
  rintro e w3 ⟨rfl, hb3⟩
  have HB3 : Hid (Below B w w3) := Lib.hid (HB2.out.trans (hb3.mono (by have := HB2.out.size; have := HB.out; omega)))
  clear hb3 p0 p1 x1 x2
  go_wp2
  go_ret
  exact ⟨rfl, by rw [HB.out]; exact HB3.out⟩

end Go.Proofs.Ytegckonhfdlbbaa
