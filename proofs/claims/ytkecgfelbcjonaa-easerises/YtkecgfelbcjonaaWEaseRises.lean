/- The walk of mutoscopelaw4.EaseRises: for all numbers it returns true; of the memory nothing that was there turns. -/
import Derived.Test.YtkecgfelbcjonaaK4
namespace Go.Proofs.Ytkecgfelbcjonaa
open Go.RowKit
open M

theorem rises_all (p q a b : Int) (a0 : 0 ≤ a) (h : a ≤ b) (b1 : b ≤ 65535) : 0 ≤ curve p 0 q 65536 a ∧ curve p 0 q 65536 a ≤ 65536 ∧ 0 ≤ curve p 0 q 65536 b ∧ curve p 0 q 65536 b ≤ 65536 ∧ curve p 0 q 65536 a ≤ curve p 0 q 65536 b + 8 := by
  have ba := share_bd p q a
  have bb := share_bd p q b
  have r := curve_rise p q h
  have za := (bend_rise ba.1 ba.2).1
  have zb := (bend_rise bb.1 bb.2).1
  have oa := cubic_one ba.1 ba.2
  have ob := cubic_one bb.1 bb.2
  rcases curve_cases p 0 q 65536 a with ⟨h1, e⟩ | ⟨h1, h2, e⟩ | ⟨h1, h2, e⟩ <;> rcases curve_cases p 0 q 65536 b with ⟨g1, e'⟩ | ⟨g1, g2, e'⟩ | ⟨g1, g2, e'⟩ <;> rw [e, e'] <;> omega

set_option maxHeartbeats 1000000 in
theorem rises_core (x1 y1 x2 y2 x y p q a b : Int) (w : World) (h1 : bits .and .i64 x1 65535 = p) (h2 : bits .and .i64 x2 65535 = q) (hl : (bits .and .i64 x 65535 = a ∧ bits .and .i64 y 65535 = b) ∨ (bits .and .i64 x 65535 = b ∧ bits .and .i64 y 65535 = a ∧ a < b)) (a0 : 0 ≤ a) (h : a ≤ b) (b1 : b ≤ 65535) :
    Calls Try.prog 5 #[.agg #[.int .i64 x1, .int .i64 y1, .int .i64 x2, .int .i64 y2], .int .i64 x, .int .i64 y] w fun e w' => e = .returned (.bool true) ∧ Below w.heap.size w w' := by
  obtain ⟨f0, f1, g0, g1, fg⟩ := rises_all p q a b a0 h b1
  obtain ⟨P, hP⟩ : ∃ P, curve p 0 q 65536 a = P := ⟨_, rfl⟩
  obtain ⟨R, hR⟩ : ∃ R, curve p 0 q 65536 b = R := ⟨_, rfl⟩
  rw [hP] at f0 f1 fg
  rw [hR] at g0 g1 fg
  have HP := Lib.hid hP
  have HR := Lib.hid hR
  clear hP hR
  have A0 := Lib.hid (k4_at0 p 0 q 65536)
  have A1 := Lib.hid (k4_at1 p 0 q 65536)
  rcases hl with ⟨e1, e2⟩ | ⟨e1, e2, hab⟩
  · go_enter Try.func5, Try.ntmps5
    go_wp2_with fail
    obtain ⟨W, hW⟩ : ∃ W, (w.alloc (.cells #[.int .i64 x1, .int .i64 y1, .int .i64 x2, .int .i64 y2] 24)).alloc (.cells #[.int .i64 p, .int .i64 0, .int .i64 q, .int .i64 65536] 24) = W := ⟨_, rfl⟩
    have H0 : Has W (w.heap.size + 1) #[.int .i64 p, .int .i64 0, .int .i64 q, .int .i64 65536] 24 := by rw [← hW]; exact has_new (by simp)
    have HB : Below w.heap.size w W := by
      rw [← hW]
      repeat (first | exact Below.refl _ _ | refine Below.alloc ?_ (by first | (simp; done) | (simp; omega)) _)
    rw [hW]
    have r0 := Later.read H0 0 _ rfl
    have r1 := Later.read H0 1 _ rfl
    have r2 := Later.read H0 2 _ rfl
    have r3 := Later.read H0 3 _ rfl
    have HH := Lib.hid H0
    have HBB := Lib.hid HB
    clear H0 HB hW
    refine wp_region_class (C := fun w' => ∃ z : Later W, w' = z.to) (by kernel_rfl) (by kernel_rfl) ⟨⟨_, below_drew (Below.refl _ _)⟩, rfl⟩ ?_
    repeat (go_big_quiet_step (first | (go_at_call 13; exact Later.calls (e_at _ _ _ _ _ _))))
    refine wpQuiet_nil ?_
    rintro _ ⟨z, rfl⟩
    rw [HP.out, HR.out]
    obtain ⟨H0, HB⟩ := keep_on HH.out HBB.out z.below
    clear r0 r1 r2 r3 HH HBB
    obtain ⟨wz, hwz⟩ : ∃ wz, z.to = wz := ⟨_, rfl⟩
    rw [hwz] at H0 HB ⊢
    clear hwz z
    have c0 := H0.cell 0 _ rfl
    have c1 := H0.cell 1 _ rfl
    have c2 := H0.cell 2 _ rfl
    have c3 := H0.cell 3 _ rfl
    have HH := Lib.hid H0
    have HBB := Lib.hid HB
    clear H0 HB
    go_wp2_with fail
    refine (e_at _ _ _ _ _ _).mono ?_
    rw [A0.out]
    rintro e w2 ⟨rfl, hq⟩
    obtain ⟨H0, HB⟩ := keep_on HH.out HBB.out hq
    clear hq HH HBB c0 c1 c2 c3
    have c0 := H0.cell 0 _ rfl
    have c1 := H0.cell 1 _ rfl
    have c2 := H0.cell 2 _ rfl
    have c3 := H0.cell 3 _ rfl
    have HH := Lib.hid H0
    have HBB := Lib.hid HB
    clear H0 HB
    go_wp2_with fail
    refine (e_at _ _ _ _ _ _).mono ?_
    rw [A1.out]
    rintro e w3 ⟨rfl, hq⟩
    obtain ⟨H0, HB⟩ := keep_on HH.out HBB.out hq
    clear hq HH HBB c0 c1 c2 c3
    have c0 := H0.cell 0 _ rfl
    have c1 := H0.cell 1 _ rfl
    have c2 := H0.cell 2 _ rfl
    have c3 := H0.cell 3 _ rfl
    have HH := Lib.hid H0
    have HBB := Lib.hid HB
    clear H0 HB
    go_wp2_with fail
    refine (known4 _).mono ?_
    rintro e w4 ⟨rfl, hq⟩
    obtain ⟨H0, HB⟩ := keep_on HH.out HBB.out hq
    clear hq HH HBB c0 c1 c2 c3
    have c0 := H0.cell 0 _ rfl
    have c1 := H0.cell 1 _ rfl
    have c2 := H0.cell 2 _ rfl
    have c3 := H0.cell 3 _ rfl
    have HH := Lib.hid H0
    have HBB := Lib.hid HB
    clear H0 HB
    go_wp2
    go_ret
    exact ⟨rfl, HBB.out⟩
  · go_enter Try.func5, Try.ntmps5
    go_wp2_with fail
    obtain ⟨W, hW⟩ : ∃ W, (w.alloc (.cells #[.int .i64 x1, .int .i64 y1, .int .i64 x2, .int .i64 y2] 24)).alloc (.cells #[.int .i64 p, .int .i64 0, .int .i64 q, .int .i64 65536] 24) = W := ⟨_, rfl⟩
    have H0 : Has W (w.heap.size + 1) #[.int .i64 p, .int .i64 0, .int .i64 q, .int .i64 65536] 24 := by rw [← hW]; exact has_new (by simp)
    have HB : Below w.heap.size w W := by
      rw [← hW]
      repeat (first | exact Below.refl _ _ | refine Below.alloc ?_ (by first | (simp; done) | (simp; omega)) _)
    rw [hW]
    have r0 := Later.read H0 0 _ rfl
    have r1 := Later.read H0 1 _ rfl
    have r2 := Later.read H0 2 _ rfl
    have r3 := Later.read H0 3 _ rfl
    have HH := Lib.hid H0
    have HBB := Lib.hid HB
    clear H0 HB hW
    refine wp_region_class (C := fun w' => ∃ z : Later W, w' = z.to) (by kernel_rfl) (by kernel_rfl) ⟨⟨_, below_drew (Below.refl _ _)⟩, rfl⟩ ?_
    repeat (go_big_quiet_step (first | (go_at_call 13; exact Later.calls (e_at _ _ _ _ _ _))))
    refine wpQuiet_nil ?_
    rintro _ ⟨z, rfl⟩
    rw [HP.out, HR.out]
    obtain ⟨H0, HB⟩ := keep_on HH.out HBB.out z.below
    clear r0 r1 r2 r3 HH HBB
    obtain ⟨wz, hwz⟩ : ∃ wz, z.to = wz := ⟨_, rfl⟩
    rw [hwz] at H0 HB ⊢
    clear hwz z
    have c0 := H0.cell 0 _ rfl
    have c1 := H0.cell 1 _ rfl
    have c2 := H0.cell 2 _ rfl
    have c3 := H0.cell 3 _ rfl
    have HH := Lib.hid H0
    have HBB := Lib.hid HB
    clear H0 HB
    go_wp2_with fail
    refine (e_at _ _ _ _ _ _).mono ?_
    rw [A0.out]
    rintro e w2 ⟨rfl, hq⟩
    obtain ⟨H0, HB⟩ := keep_on HH.out HBB.out hq
    clear hq HH HBB c0 c1 c2 c3
    have c0 := H0.cell 0 _ rfl
    have c1 := H0.cell 1 _ rfl
    have c2 := H0.cell 2 _ rfl
    have c3 := H0.cell 3 _ rfl
    have HH := Lib.hid H0
    have HBB := Lib.hid HB
    clear H0 HB
    go_wp2_with fail
    refine (e_at _ _ _ _ _ _).mono ?_
    rw [A1.out]
    rintro e w3 ⟨rfl, hq⟩
    obtain ⟨H0, HB⟩ := keep_on HH.out HBB.out hq
    clear hq HH HBB c0 c1 c2 c3
    have c0 := H0.cell 0 _ rfl
    have c1 := H0.cell 1 _ rfl
    have c2 := H0.cell 2 _ rfl
    have c3 := H0.cell 3 _ rfl
    have HH := Lib.hid H0
    have HBB := Lib.hid HB
    clear H0 HB
    go_wp2_with fail
    refine (known4 _).mono ?_
    rintro e w4 ⟨rfl, hq⟩
    obtain ⟨H0, HB⟩ := keep_on HH.out HBB.out hq
    clear hq HH HBB c0 c1 c2 c3
    have c0 := H0.cell 0 _ rfl
    have c1 := H0.cell 1 _ rfl
    have c2 := H0.cell 2 _ rfl
    have c3 := H0.cell 3 _ rfl
    have HH := Lib.hid H0
    have HBB := Lib.hid HB
    clear H0 HB
    go_wp2
    go_ret
    exact ⟨rfl, HBB.out⟩

theorem easeRises_walk (x1 y1 x2 y2 x y : Int) (_ : (Lit.int .i64 x1).wf = true) (_ : (Lit.int .i64 y1).wf = true) (_ : (Lit.int .i64 x2).wf = true) (_ : (Lit.int .i64 y2).wf = true) (_ : (Lit.int .i64 x).wf = true) (_ : (Lit.int .i64 y).wf = true) (w : World) :
    Calls Try.prog 5 #[.agg #[.int .i64 x1, .int .i64 y1, .int .i64 x2, .int .i64 y2], .int .i64 x, .int .i64 y] w fun e w' => e = .returned (.bool true) ∧ Below w.heap.size w w' := by
  have hx := and_one x
  have hy := and_one y
  by_cases h : x % 65536 ≤ y % 65536
  · exact rises_core x1 y1 x2 y2 x y _ _ (x % 65536) (y % 65536) w rfl rfl (Or.inl ⟨hx, hy⟩) (by omega) h (by omega)
  · exact rises_core x1 y1 x2 y2 x y _ _ (y % 65536) (x % 65536) w rfl rfl (Or.inr ⟨hx, hy, by omega⟩) (by omega) (by omega) (by omega)

end Go.Proofs.Ytkecgfelbcjonaa
