/- BlendNumbers of the statements: the call returns true; of the memory nothing that was there turns. -/
import Derived.Test.YtibgilaeepmheaaK17
import Derived.Deep.DeepCutAuto
namespace Go.Proofs.Ytibgilaeepmheaa
open Go Go.RowKit
open M

theorem eq_pixel_sameN (w : World) (x : Cr) : (Op.equalIn 10000 25 (.agg (cCells x)) (.agg (cCells x))).run Try.prog w = .ok true w := by
  rw [eq_pixel]; simp
theorem nm17_p {a b : Int} (a0 : 0 ≤ a) (a1 : a < 256) (b0 : 0 ≤ b) (b1 : b < 256) : (⟨a, b, 255, a⟩ : Cr).Ok := by constructor <;> simp only <;> omega
theorem nm17_o {a b : Int} (a0 : 0 ≤ a) (a1 : a < 256) (b0 : 0 ≤ b) (b1 : b < 256) : (⟨b, 0, a, b⟩ : Cr).Ok := by constructor <;> simp only <;> omega

attribute [local go_sem] eq_pixel_sameN
set_option maxRecDepth 100000 in
set_option maxHeartbeats 8000000 in
theorem blendNumbers_walk (w : World) : Calls Try.prog 3 #[] w fun e w' => e = .returned (.bool true) ∧ Below w.heap.size w w' := by
  have KN := Lib.hid (fun w => known17 w)
  go_enter Try.func3, Try.ntmps3
  go_wp2_with fail
  go_loopw [1] (fun t wr => ∃ a : Int, -2 ≤ a ∧ a ≤ 258 ∧ t = .int .i64 a ∧ Below w.heap.size w wr) (fun t _ => 300 - (intOf t + 3).toNat)
  case atStart => exact ⟨-2, by omega, by omega, rfl, Below.refl _ _⟩
  case round =>
    obtain ⟨a, a0, a1, rfl, hb⟩ := hrel
    have HB := Lib.hid hb
    clear hb
    by_cases ha : a < 258
    · have BS := Lib.hid (fun w => bl_strength a w)
      have RS := Lib.hid (fun w => rb_strength a w)
      have BB := Lib.hid (fun b w => bl_by a b w)
      have RB := Lib.hid (fun b w => rb_by a b w)
      obtain ⟨s, hs⟩ : ∃ s, strB a = s := ⟨_, rfl⟩
      rw [hs] at BS RS
      obtain ⟨f, hf⟩ : ∃ s, byB a = s := ⟨_, rfl⟩
      rw [hf] at BB RB
      clear hs hf
      go_wp2_with fail
      go_loopw [2] (fun t wr => ∃ b : Int, -2 ≤ b ∧ b ≤ 258 ∧ t = .int .i64 b ∧ Below w.heap.size w wr) (fun t _ => 300 - (intOf t + 3).toNat)
      case atStart => exact ⟨-2, by omega, by omega, rfl, HB.out⟩
      case round =>
        clear HB
        obtain ⟨b, b0, b1, rfl, hb⟩ := hrel
        have HB := Lib.hid hb
        clear hb
        by_cases hb : b < 258
        · go_wp2_with fail
          refine (BB.out _ _).mono ?_
          rintro e w' ⟨rfl, rfl⟩
          go_wp2_with fail
          refine (RB.out _ _).mono ?_
          rintro e w' ⟨rfl, rfl⟩
          go_wp2
          go_roundw
          case rel => exact ⟨b + 1, by omega, by omega, by go_num, HB.out⟩
          case measure => simp [intOf]; omega
        · go_wp2_with fail
          refine (BS.out _).mono ?_
          rintro e w' ⟨rfl, rfl⟩
          go_wp2_with fail
          refine (RS.out _).mono ?_
          rintro e w' ⟨rfl, rfl⟩
          go_wp2
          go_roundw
          case rel => exact ⟨a + 1, by omega, by omega, by go_num, HB.out⟩
          case measure => simp [intOf]; omega
    · go_wp2_with fail
      go_loopw [3] (fun t wr => ∃ a : Int, 0 ≤ a ∧ a ≤ 270 ∧ t = .int .i64 a ∧ Below w.heap.size w wr) (fun t _ => 300 - (intOf t).toNat)
      case atStart => exact ⟨0, by omega, by omega, rfl, HB.out⟩
      case round =>
        clear ha a0 a1 HB
        obtain ⟨a, a0, a1, rfl, hb⟩ := hrel
        have HB := Lib.hid hb
        clear hb
        by_cases ha : a < 256
        · go_wp2_with fail
          go_loopw [4] (fun t wr => ∃ b : Int, 0 ≤ b ∧ b ≤ 272 ∧ t = .int .i64 b ∧ Below w.heap.size w wr) (fun t _ => 300 - (intOf t).toNat)
          case atStart => exact ⟨0, by omega, by omega, rfl, HB.out⟩
          case round =>
            clear HB
            obtain ⟨b, b0, b1, rfl, hb⟩ := hrel
            have HB := Lib.hid hb
            clear hb
            by_cases hlb : b < 256
            · obtain ⟨P, hP⟩ : ∃ P, wr.heap.size = P := ⟨_, rfl⟩
              obtain ⟨V, hV⟩ : ∃ V, (wr.alloc (.cells (cCells ⟨a, b, 255, a⟩) 25)).alloc (.cells (cCells ⟨b, 0, a, b⟩) 25) = V := ⟨_, rfl⟩
              have kp : Hid (Has V P (cCells ⟨a, b, 255, a⟩) 25) := Lib.hid (by rw [← hV]; exact (has_new hP).alloc _)
              have ko : Hid (Has V (P + 1) (cCells ⟨b, 0, a, b⟩) 25) := Lib.hid (by rw [← hV]; exact has_new (by simp [hP]))
              have BV := Lib.hid (show Below w.heap.size w V by rw [← hV]; exact (HB.out.alloc HB.out.size _).alloc (by have := HB.out.size; simp; omega) _)
              have okp := nm17_p a0 ha b0 hlb
              have oko := nm17_o a0 ha b0 hlb
              have O1 := Lib.hid (fun w => bl_over _ _ okp oko w)
              have O2 := Lib.hid (fun w => rb_over _ _ okp oko w)
              have F1 := Lib.hid (fun k w => bl_fade _ k okp w)
              have F2 := Lib.hid (fun k w => rb_fade _ k okp w)
              have C1 := Lib.hid (fun x y w => bl_of _ x y okp w)
              have C2 := Lib.hid (fun x y w => rb_of _ x y okp w)
              have M1 := Lib.hid (fun h w => bl_matte _ _ h okp oko w)
              have M2 := Lib.hid (fun h w => rb_matte _ _ h okp oko w)
              obtain ⟨o, ho⟩ : ∃ o, overB ⟨a, b, 255, a⟩ ⟨b, 0, a, b⟩ = o := ⟨_, rfl⟩
              rw [ho] at O1 O2
              obtain ⟨f, hf⟩ : ∃ o, fadeB ⟨a, b, 255, a⟩ = o := ⟨_, rfl⟩
              rw [hf] at F1 F2
              obtain ⟨g, hg⟩ : ∃ o, ofB ⟨a, b, 255, a⟩ = o := ⟨_, rfl⟩
              rw [hg] at C1 C2
              obtain ⟨m, hm⟩ : ∃ o, matteB ⟨a, b, 255, a⟩ ⟨b, 0, a, b⟩ = o := ⟨_, rfl⟩
              rw [hm] at M1 M2
              clear ho hf hg hm okp oko
              have HV := Lib.hid hV
              clear hV HB
              go_upto_region 18 with fail
              rw [HV.out]
              clear hP HV
              have d0 := Later.read kp.out 0 (.int .u8 a) rfl
              have d1 := Later.read kp.out 1 (.int .u8 b) rfl
              have d2 := Later.read kp.out 2 (.int .u8 255) rfl
              have d3 := Later.read kp.out 3 (.int .u8 a) rfl
              have q0 := Later.read ko.out 0 (.int .u8 b) rfl
              have q1 := Later.read ko.out 1 (.int .u8 0) rfl
              have q2 := Later.read ko.out 2 (.int .u8 a) rfl
              have q3 := Later.read ko.out 3 (.int .u8 b) rfl
              refine wp_region_class (C := fun w' => ∃ z : Later V, w' = z.to) (by kernel_rfl) (by kernel_rfl) ⟨⟨_, below_drew (Below.refl _ _)⟩, rfl⟩ ?_
              repeat (go_big_quiet_step (first | (go_at_call 11; exact Later.calls (O1.out _)) | (go_at_call 12; exact Later.calls (O2.out _)) | (go_at_call 15; exact Later.calls (C1.out _ _ _)) | (go_at_call 16; exact Later.calls (C2.out _ _ _)) | (go_at_call 13; exact Later.calls (F1.out _ _)) | (go_at_call 14; exact Later.calls (F2.out _ _))))
              refine wpQuiet_nil ?_
              rintro _ ⟨z, rfl⟩
              go_wp2
              go_loopw [7] (fun t wx => ∃ h : Int, -1 ≤ h ∧ h ≤ 4 ∧ t = .int .i64 h ∧ ∃ z : Later V, wx = z.to) (fun t _ => 10 - (intOf t + 2).toNat)
              case atStart => exact ⟨-1, by omega, by omega, rfl, z, rfl⟩
              case round =>
                obtain ⟨h, h0, h1, rfl, z2, rfl⟩ := hrel
                by_cases hh : h < 4
                · go_wp2
                  refine wp_region_class (C := fun w' => ∃ z : Later V, w' = z.to) (by kernel_rfl) (by kernel_rfl) ⟨⟨_, below_drew z2.below⟩, rfl⟩ ?_
                  repeat (go_big_quiet_step (first | (go_at_call 17; exact Later.calls (M1.out _ _)) | (go_at_call 18; exact Later.calls (M2.out _ _))))
                  refine wpQuiet_nil ?_
                  rintro _ ⟨z3, rfl⟩
                  go_wp2
                  go_roundw
                  case rel => exact ⟨h + 1, by omega, by omega, by go_num, z3, rfl⟩
                  case measure => simp [intOf]; omega
                · go_wp2
                  go_roundw
                  case rel => exact ⟨b + 17, by omega, by omega, by go_num, BV.out.trans (z2.below.mono BV.out.size)⟩
                  case measure => simp [intOf]; omega
            · go_wp2
              go_roundw
              case rel => exact ⟨a + 15, by omega, by omega, by go_num, HB.out⟩
              case measure => simp [intOf]; omega
        · go_wp2_with fail
          refine (KN.out _).mono ?_
          rintro e X3 ⟨rfl, hq⟩
          have D3 := Lib.hid (HB.out.trans (hq.mono HB.out.size))
          clear hq HB
          go_wp2
          go_ret
          exact ⟨rfl, D3.out⟩

end Go.Proofs.Ytibgilaeepmheaa
