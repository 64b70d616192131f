/- Contract of mutoscopelaw9.known: it returns true; of the memory nothing that was there turns. -/
import Derived.Test.YtddcjdhlmlhgdaaN4
namespace Go.Proofs.Ytddcjdhlmlhgdaa
open Go Go.RowKit
open M

def kn9 : List Pt := [⟨0, 0⟩, ⟨16, 0⟩]
theorem kn9_c : cutL false kn9 2 5 = [⟨2, 0⟩, ⟨5, 0⟩] := by decide +kernel
theorem kn9_n : cutL false kn9 5 5 = [] := by decide +kernel
theorem kn9_l : lengthL false kn9 = 16 := by decide +kernel
theorem kn9_o : onP ⟨0, 0⟩ ⟨8, 0⟩ 9 4 = ⟨8, 0⟩ := by decide +kernel
theorem kn9_s : sidesN false 2 = 1 := by decide

set_option maxRecDepth 100000 in
set_option maxHeartbeats 2000000 in
theorem known9 (w : World) : Calls Try.prog 11 #[] w fun r w' => r = .returned (.bool true) ∧ Below w.heap.size w w' := by
  obtain ⟨B, hB⟩ : ∃ B, w.heap.size = B := ⟨_, rfl⟩
  obtain ⟨W, hW⟩ : ∃ W, (w.alloc (.cells #[.int .i64 0, .int .i64 0, .int .i64 16, .int .i64 0] 32)).alloc (.cells #[.bool false, .slice (some ⟨B, 0, none⟩) 2 2] 24) = W := ⟨_, rfl⟩
  have k0 : Has W B #[.int .i64 0, .int .i64 0, .int .i64 16, .int .i64 0] 32 := by rw [← hW]; exact (has_new hB).alloc _
  have k1 : Has W (B + 1) #[.bool false, .slice (some ⟨B, 0, none⟩) 2 2] 24 := by rw [← hW]; exact has_new (by simp [hB])
  have hs : Psl W (.slice (some ⟨B, 0, none⟩) 2 2) kn9 := psl_lit (ps := kn9) 2 2 rfl (by decide) k0 rfl
  have bW : Below B w W := by rw [← hW]; exact ((Below.refl _ _).alloc (by omega) _).alloc (by simp; omega) _
  have HS := Lib.hid (fun (w' : World) (hb : Below W.heap.size W w') => hs.below hb (Nat.le_refl _))
  have K1 := Lib.hid k1
  have BW := Lib.hid bW
  have HW := Lib.hid hW
  have HB := Lib.hid hB
  have P1 : Hid (∀ w', Below W.heap.size W w' → Calls Try.prog 15 #[.agg #[.bool false, .slice (some ⟨B, 0, none⟩) 2 2], .int .i64 2, .int .i64 5] w' (Gives w' false [⟨2, 0⟩, ⟨5, 0⟩])) := Lib.hid (fun w' hb => by have := a_part false 2 5 (HS.out w' hb) (by decide); rw [kn9_c] at this; exact this)
  have P2 : Hid (∀ w', Below W.heap.size W w' → Calls Try.prog 15 #[.agg #[.bool false, .slice (some ⟨B, 0, none⟩) 2 2], .int .i64 5, .int .i64 5] w' (Gives w' false [])) := Lib.hid (fun w' hb => by have := a_part false 5 5 (HS.out w' hb) (by decide); rw [kn9_n] at this; exact this)
  have LE : Hid (∀ w', Below W.heap.size W w' → Calls Try.prog 14 #[.agg #[.bool false, .slice (some ⟨B, 0, none⟩) 2 2]] w' fun r w'' => r = .returned (.int .i64 16) ∧ Below w'.heap.size w' w'') := Lib.hid (fun w' hb => by have := a_length false (HS.out w' hb); rw [kn9_l] at this; exact this)
  have SI : Hid (∀ w', Calls Try.prog 16 #[.agg #[.bool false, .slice (some ⟨B, 0, none⟩) 2 2]] w' fun r w'' => r = .returned (.int .i64 1) ∧ Below w'.heap.size w' w'') := Lib.hid (fun w' => by have := a_sides false (some ⟨B, 0, none⟩) 2 2 (by decide) w'; rw [kn9_s] at this; exact this)
  have ON : Hid (∀ w', Calls Try.prog 12 #[.agg #[.int .i64 0, .int .i64 0], .agg #[.int .i64 8, .int .i64 0], .int .i64 9, .int .i64 4] w' fun r w'' => r = .returned (.agg #[.int .i64 8, .int .i64 0]) ∧ Below w'.heap.size w' w'') := Lib.hid (fun w' => by have := a_on ⟨0, 0⟩ ⟨8, 0⟩ 9 4 w'; rw [kn9_o] at this; exact this)
  clear hs bW hW k0 k1
  go_enter Try.func11, Try.ntmps11
  go_upto_region 2 with fail
  rw [HW.out]
  clear hB
  have a0 := K1.out.cell 0 _ rfl
  have a1 := K1.out.cell 1 _ rfl
  go_wp2_with fail
  refine (P1.out _ (Below.refl _ _)).mono ?_
  rintro e w1 ⟨v1, rfl, ho1, hb1⟩
  obtain ⟨g1, cap1, rfl⟩ := ho1.shape (by decide)
  obtain ⟨V, hV⟩ : ∃ V, w1.alloc (.cells #[.bool false, .slice (some ⟨g1, 0, none⟩) 2 cap1] 24) = V := ⟨_, rfl⟩
  obtain ⟨gp, hgp⟩ : ∃ g, w1.heap.size = g := ⟨_, rfl⟩
  have kp : Has V gp #[.bool false, .slice (some ⟨g1, 0, none⟩) 2 cap1] 24 := by rw [← hV]; exact has_new hgp
  have oV : Pown V W.heap.size (.slice (some ⟨g1, 0, none⟩) 2 cap1) [⟨2, 0⟩, ⟨5, 0⟩] := by rw [← hV]; exact ho1.alloc _
  have bV : Below W.heap.size W V := by rw [← hV]; exact hb1.alloc hb1.size _
  have KP := Lib.hid kp
  have OV := Lib.hid oV
  have BV := Lib.hid bV
  have HV := Lib.hid hV
  have kk := K1.out.below bV K1.out.lt
  clear kp oV bV hV ho1 hb1 a0 a1
  go_upto_region 3 with fail
  rw [HV.out]
  clear hgp
  have a0 := kk.cell 0 _ rfl
  have a1 := kk.cell 1 _ rfl
  clear kk
  go_wp2_with fail
  refine (LE.out _ BV.out).mono ?_
  rintro e w2 ⟨rfl, hb2⟩
  have B2 := Lib.hid (BV.out.trans (hb2.mono BV.out.size))
  have D2 := Lib.hid hb2
  have kk := K1.out.below B2.out K1.out.lt
  have a0 := kk.cell 0 _ rfl
  have a1 := kk.cell 1 _ rfl
  clear kk hb2
  go_wp2_with fail
  refine (SI.out _).mono ?_
  rintro e w3 ⟨rfl, hb3⟩
  have B3 := Lib.hid (B2.out.trans (hb3.mono B2.out.size))
  have D3 := Lib.hid (D2.out.trans (hb3.mono D2.out.size))
  have kk := K1.out.below B3.out K1.out.lt
  have a0 := kk.cell 0 _ rfl
  have a1 := kk.cell 1 _ rfl
  have kq := KP.out.below D3.out KP.out.lt
  have p0 := kq.cell 0 _ rfl
  have p1 := kq.cell 1 _ rfl
  have r1 := (OV.out.below D3.out (Nat.le_refl _)).row (by decide) (by decide)
  have x0 := r1.c0 0 (by decide)
  have x1 := r1.c0 1 (by decide)
  simp only [Nat.zero_add, Nat.reduceMul, Nat.zero_mul, pt_cons, pt_zero] at x0 x1
  clear kk kq r1 hb3
  go_wp2_with fail
  refine (P2.out _ B3.out).mono ?_
  rintro e w4 ⟨v4, rfl, ho4, hb4⟩
  obtain ⟨ao4, cap4, ex⟩ := ho4.len
  simp only [List.length_nil] at ex
  subst ex
  have fd : ∀ w : World, (Instr.field 24 (.agg #[.bool false, .slice ao4 0 cap4]) 1).run Try.prog w = .ok (.slice ao4 0 cap4) w := fun _ => by kernel_rfl
  have B4 := Lib.hid (B3.out.trans (hb4.mono B3.out.size))
  clear ho4 hb4
  go_wp2_with fail
  refine (ON.out _).mono ?_
  rintro e w5 ⟨rfl, hb5⟩
  have B5 := Lib.hid (B4.out.trans (hb5.mono B4.out.size))
  clear hb5
  go_wp2
  go_ret
  exact ⟨rfl, by rw [HB.out]; exact BW.out.trans (B5.out.mono (by have := BW.out.size; have := HB.out; omega))⟩

end Go.Proofs.Ytddcjdhlmlhgdaa
