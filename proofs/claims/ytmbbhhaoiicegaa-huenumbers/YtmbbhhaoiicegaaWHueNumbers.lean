/- The walk of mutoscopelaw6.HueNumbers: it returns true; of the memory nothing that was there turns. No condition. -/
import Derived.Test.YtmbbhhaoiicegaaCO
import Derived.Test.YtmbbhhaoiicegaaS6
import Derived.Deep.RegionWith
namespace Go.Proofs.Ytmbbhhaoiicegaa
open Go.RowKit
open M

attribute [local go_sem] eq_color alloc_drewN setCell_drewN shape_drewN

def fourteen : Array Value := #[.int .i64 (-4611686018427387904), .int .i64 (-65536), .int .i64 (-1), .int .i64 0, .int .i64 1, .int .i64 255, .int .i64 257, .int .i64 21845, .int .i64 32768, .int .i64 65535, .int .i64 65536, .int .i64 65537, .int .i64 196608, .int .i64 4611686018427387904]
theorem fourteen_at {m : Nat} (h : m < 14) : ∃ p : Int, fourteen[m]? = some (.int .i64 p) := by
  rcases (show m = 0 ∨ m = 1 ∨ m = 2 ∨ m = 3 ∨ m = 4 ∨ m = 5 ∨ m = 6 ∨ m = 7 ∨ m = 8 ∨ m = 9 ∨ m = 10 ∨ m = 11 ∨ m = 12 ∨ m = 13 by omega) with rfl | rfl | rfl | rfl | rfl | rfl | rfl | rfl | rfl | rfl | rfl | rfl | rfl | rfl <;> exact ⟨_, rfl⟩

def fours : List Ck := [⟨1073741825, ⟨0, 0, 0, 0⟩, 0, 0, 0, 0, 0⟩, ⟨0, ⟨0, 0, 0, 0⟩, 3, 0, 0, 0, 0⟩, ⟨0, ⟨0, 0, 0, 0⟩, 2, 0, 0, -1, 0⟩, ⟨0, ⟨0, 0, 0, 0⟩, 0, 0, 0, 1, 0⟩]
def foursC : Array Value := #[.int .i64 1073741825, .int .u8 0, .int .u8 0, .int .u8 0, .int .u8 0, .int .i64 0, .int .i64 0, .int .i64 0, .int .i64 0, .int .i64 0,
  .int .i64 0, .int .u8 0, .int .u8 0, .int .u8 0, .int .u8 0, .int .i64 3, .int .i64 0, .int .i64 0, .int .i64 0, .int .i64 0,
  .int .i64 0, .int .u8 0, .int .u8 0, .int .u8 0, .int .u8 0, .int .i64 2, .int .i64 0, .int .i64 0, .int .i64 (-1), .int .i64 0,
  .int .i64 0, .int .u8 0, .int .u8 0, .int .u8 0, .int .u8 0, .int .i64 0, .int .i64 0, .int .i64 0, .int .i64 1, .int .i64 0]
theorem fours_c : foursC.toList = cls fours := rfl
theorem fours_ok : ∀ i, i < fours.length → (ck fours i).p.Ok := by
  intro i hi
  rcases (show i = 0 ∨ i = 1 ∨ i = 2 ∨ i = 3 by simp [fours] at hi; omega) with rfl | rfl | rfl | rfl <;> exact ok_byte rfl
theorem made33c : (madeCells #[.int .i64 0, .int .u8 0, .int .u8 0, .int .u8 0, .int .u8 0, .int .i64 0, .int .i64 0, .int .i64 0, .int .i64 0, .int .i64 0] 330).toList = cls (List.replicate 33 default) := by kernel_rfl
theorem zero33 : ∀ i, i < (List.replicate 33 (default : Ck)).length → (ck (List.replicate 33 default) i).p.Ok := by
  intro i hi
  have e : ck (List.replicate 33 default) i = default := by
    unfold ck
    rw [List.getD_eq_getElem?_getD, List.getElem?_replicate]
    split <;> rfl
  rw [e]
  exact ok_byte rfl
theorem one_cc (k : Ck) : (kkCells k).toList = cls [k] := rfl

set_option maxHeartbeats 4000000 in
set_option maxRecDepth 100000 in
theorem hueNumbers_walk (w : World) :
    Calls Try.prog 3 #[] w fun r w' => r = .returned (.bool true) ∧ Below w.heap.size w w' := by
  obtain ⟨i0, hi, hz0, hz1, hz2⟩ := info_parts Try.infoCk
  obtain ⟨B, hB⟩ : ∃ B, w.heap.size = B := ⟨_, rfl⟩
  rw [hB]
  have HB0 := Lib.hid hB
  clear hB
  go_enter Try.func3, Try.ntmps3
  go_wp2
  go_loopw [1] (fun n wr => ∃ a : Int, 0 ≤ a ∧ a ≤ 272 ∧ n = .int .i64 a ∧ Below B w wr) (fun n _ => (272 - intOf n).toNat)
  case atStart => exact ⟨0, by omega, by omega, rfl, Below.refl _ _⟩
  case round =>
    obtain ⟨a, a0, a1, rfl, hb⟩ := hrel
    rename World => v1
    have HB := Lib.hid hb
    clear hb
    by_cases hla : a < 256
    · go_wp2
      go_loopw [2] (fun n wr => ∃ b : Int, 0 ≤ b ∧ b ≤ 270 ∧ n = .int .i64 b ∧ Below B w wr) (fun n _ => (270 - intOf n).toNat)
      case atStart => exact ⟨0, by omega, by omega, rfl, HB.out⟩
      case round =>
        clear HB
        obtain ⟨b, b0, b1, rfl, hb⟩ := hrel
        rename World => v2
        have HB := Lib.hid hb
        have hsz : B ≤ v2.heap.size := by have := hb.size; have := HB0.out; omega
        have hh : Has (v2.alloc (.cells fourteen 2)) v2.heap.size fourteen 2 := has_new0
        have hb1 : Below B w (v2.alloc (.cells fourteen 2)) := hb.alloc hsz _
        have R0 := Lib.hid (And.intro hh hb1)
        clear hb hh hb1
        by_cases hlb : b < 256
        · go_wp2
          go_loopw [20] (fun n wr => ∃ m : Nat, m ≤ 14 ∧ n = .int .i64 m ∧ Has wr v2.heap.size fourteen 2 ∧ Below B w wr) (fun n _ => 14 - (intOf n).toNat)
          case atStart => exact ⟨0, by omega, rfl, R0.out⟩
          case round =>
            clear R0 HB
            obtain ⟨m, hm, rfl, hh, hb⟩ := hrel
            have hsr : B ≤ wr.heap.size := by have := hb.size; have := HB0.out; omega
            by_cases hlm : m < 14
            · obtain ⟨p, hp⟩ := fourteen_at hlm
              have c0 := hh.cell m _ hp
              have o1 : (m : Int) < 14 := by omega
              have hok1 : (⟨a, b, 0, 255⟩ : Cr).Ok := ⟨by simp only; omega, by simp only; omega, by simp only; omega, by simp only; omega, by simp, by simp, by simp, by simp⟩
              have hok2 : (⟨b, a, 255, 1⟩ : Cr).Ok := ⟨by simp only; omega, by simp only; omega, by simp only; omega, by simp only; omega, by simp, by simp, by simp, by simp⟩
              obtain ⟨c, hc⟩ : ∃ c, mix ⟨a, b, 0, 255⟩ ⟨b, a, 255, 1⟩ p = c := ⟨_, rfl⟩
              have M1 := Lib.hid (fun w => hc ▸ h_mix ⟨a, b, 0, 255⟩ ⟨b, a, 255, 1⟩ p w hok1 hok2)
              have M2 := Lib.hid (fun w => hc ▸ r5_mix ⟨a, b, 0, 255⟩ ⟨b, a, 255, 1⟩ p w hok1 hok2)
              have H0 : Has ((wr.alloc (.cells #[.int .u8 a, .int .u8 b, .int .u8 0, .int .u8 255] 24)).alloc (.cells #[.int .u8 b, .int .u8 a, .int .u8 255, .int .u8 1] 24)) wr.heap.size #[.int .u8 a, .int .u8 b, .int .u8 0, .int .u8 255] 24 := has_new0.alloc _
              have H1 : Has ((wr.alloc (.cells #[.int .u8 a, .int .u8 b, .int .u8 0, .int .u8 255] 24)).alloc (.cells #[.int .u8 b, .int .u8 a, .int .u8 255, .int .u8 1] 24)) (wr.heap.size + 1) #[.int .u8 b, .int .u8 a, .int .u8 255, .int .u8 1] 24 := has_new (by simp)
              have H2 := (hh.alloc (.cells #[.int .u8 a, .int .u8 b, .int .u8 0, .int .u8 255] 24)).alloc (.cells #[.int .u8 b, .int .u8 a, .int .u8 255, .int .u8 1] 24)
              have hb2 := (hb.alloc hsr (.cells #[.int .u8 a, .int .u8 b, .int .u8 0, .int .u8 255] 24)).alloc (by simp; omega) (.cells #[.int .u8 b, .int .u8 a, .int .u8 255, .int .u8 1] 24)
              obtain ⟨W, hW⟩ : ∃ W, (wr.alloc (.cells #[.int .u8 a, .int .u8 b, .int .u8 0, .int .u8 255] 24)).alloc (.cells #[.int .u8 b, .int .u8 a, .int .u8 255, .int .u8 1] 24) = W := ⟨_, rfl⟩
              rw [hW] at H0 H1 H2 hb2
              have r0 := Later.read H0 0 (.int .u8 a) rfl
              have r1 := Later.read H0 1 (.int .u8 b) rfl
              have r2 := Later.read H0 2 (.int .u8 0) rfl
              have r3 := Later.read H0 3 (.int .u8 255) rfl
              have s0 := Later.read H1 0 (.int .u8 b) rfl
              have s1 := Later.read H1 1 (.int .u8 a) rfl
              have s2 := Later.read H1 2 (.int .u8 255) rfl
              have s3 := Later.read H1 3 (.int .u8 1) rfl
              have HW := Lib.hid hW
              have X2 := Lib.hid H2
              have HB2 := Lib.hid hb2
              clear hb2 H0 H1 H2 hh hb hW hc hp hok1 hok2
              obtain ⟨cr, cg, cb, cq⟩ := c
              go_wp2_with fail
              rw [HW.out]
              refine wp_region_class (C := fun w' => ∃ z : Later W, w' = z.to) (by kernel_rfl) (by kernel_rfl) ⟨⟨_, below_drew (Below.refl _ _)⟩, rfl⟩ ?_
              repeat (go_big_quiet_step (first | (go_at_call 7; exact Later.calls (M1.out _)) | (go_at_call 8; exact Later.calls (M2.out _))))
              refine wpQuiet_nil ?_
              rintro _ ⟨z, rfl⟩
              have R := Lib.hid (And.intro (X2.out.below z.below X2.out.lt) (HB2.out.trans (z.below.mono (by have := HB2.out.size; have := HB0.out; omega))))
              clear r0 r1 r2 r3 s0 s1 s2 s3 c0 M1 M2 HW X2 HB2
              go_wp2
              go_roundw
              case rel => exact ⟨m + 1, by omega, by go_num, R.out⟩
              case measure => simp [intOf]; omega
            · obtain rfl : m = 14 := by omega
              have HB := Lib.hid hb
              clear hb hh
              go_wp2
              go_roundw
              case rel => exact ⟨b + 15, by omega, by omega, by go_num, HB.out⟩
              case measure => simp [intOf]; omega
        · go_wp2
          go_roundw
          case rel => exact ⟨a + 17, by omega, by omega, by go_num, HB.out⟩
          case measure => simp [intOf]; omega
    · go_wp2
      clear hla a1 a0
      go_loopw [7] (fun n wr => ∃ a : Int, 0 ≤ a ∧ a ≤ 256 ∧ n = .int .i64 a ∧ Below B w wr) (fun n _ => (256 - intOf n).toNat)
      case atStart => exact ⟨0, by omega, by omega, rfl, HB.out⟩
      case round =>
        clear HB
        obtain ⟨c, c0, c1, rfl, hb⟩ := hrel
        rename World => v2
        have HB := Lib.hid hb
        have hsz : B ≤ v2.heap.size := by have := hb.size; have := HB0.out; omega
        clear hb
        by_cases hlc : c < 256
        · have l0 : luma ⟨c, c, c, 9⟩ = c := by simp only [luma]; omega
          have L0 := Lib.hid (fun w => l0 ▸ h_luma ⟨c, c, c, 9⟩ w ⟨c0, by simp only; omega, c0, by simp only; omega, c0, by simp only; omega, by simp, by simp⟩)
          have hk2 : (⟨c, 0, c * 7 % 256, 9⟩ : Cr).Ok := ⟨c0, by simp only; omega, by simp, by simp, by simp only; omega, by simp only; omega, by simp, by simp⟩
          obtain ⟨l, hl⟩ : ∃ l, luma ⟨c, 0, c * 7 % 256, 9⟩ = l := ⟨_, rfl⟩
          have L1 := Lib.hid (fun w => hl ▸ h_luma ⟨c, 0, c * 7 % 256, 9⟩ w hk2)
          have L2 := Lib.hid (fun w => hl ▸ r5_luma ⟨c, 0, c * 7 % 256, 9⟩ w hk2)
          clear l0 hk2 hl
          go_wp2_with fail
          refine (L0.out _).mono ?_
          rintro e w4 ⟨rfl, hq4⟩
          have HB4 := Lib.hid (HB.out.trans (hq4.mono hsz))
          clear hq4 HB L0
          go_wp2_with fail
          refine (L1.out _).mono ?_
          rintro e w5 ⟨rfl, hq5⟩
          have HB5 := Lib.hid (HB4.out.trans (hq5.mono (by have := HB4.out.size; have := HB0.out; omega)))
          clear hq5 HB4 L1
          go_wp2_with fail
          refine (L2.out _).mono ?_
          rintro e w6 ⟨rfl, hq6⟩
          have HB6 := Lib.hid (HB5.out.trans (hq6.mono (by have := HB5.out.size; have := HB0.out; omega)))
          clear hq6 HB5 L2
          go_wp2
          go_roundw
          case rel => exact ⟨c + 1, by omega, by omega, by go_num, HB6.out⟩
          case measure => simp [intOf]; omega
        · have hh : Has (v2.alloc (.cells foursC 31)) v2.heap.size foursC 31 := has_new0
          have hb1 : Below B w (v2.alloc (.cells foursC 31)) := HB.out.alloc hsz _
          have R0 := Lib.hid (And.intro hh hb1)
          clear hh hb1 HB
          go_wp2_with fail
          go_loopw [83] (fun i wr => ∃ m : Nat, m ≤ 4 ∧ i = .int .i64 m ∧ Has wr v2.heap.size foursC 31 ∧ Below B w wr) (fun i _ => 4 - (intOf i).toNat)
          case atStart => exact ⟨0, by omega, rfl, R0.out⟩
          case round =>
            clear R0
            obtain ⟨m, hm, rfl, hh, hb⟩ := hrel
            have hsr : B ≤ wr.heap.size := by have := hb.size; have := HB0.out; omega
            by_cases hlm : m < 4
            · have hr := crow_has (ks := fours) (by decide) fours_ok hh fours_c
              have c0 := hr.c0 m hlm
              have c1 := hr.c1 m hlm
              have c2 := hr.c2 m hlm
              have c3 := hr.c3 m hlm
              have c4 := hr.c4 m hlm
              have c5 := hr.c5 m hlm
              have c6 := hr.c6 m hlm
              have c7 := hr.c7 m hlm
              have c8 := hr.c8 m hlm
              have c9 := hr.c9 m hlm
              have hk := hr.ok m hlm
              rw [Nat.zero_add] at c0 c1 c2 c3 c4 c5 c6 c7 c8 c9
              have o1 : (m : Int) < 4 := by omega
              generalize ck fours m = k at *
              have HS := Lib.hid (csl_lit (ks := [k]) 1 1 rfl (by decide) (by decide) (by intro i hi; simp at hi; subst hi; exact hk) (has_new (w := wr.alloc (.cells (kkCells k) 31)) (g := wr.heap.size + 1) (cs := kkCells k) (t := 31) (by simp)) (one_cc k))
              have HN' := Lib.hid ((hh.alloc (.cells (kkCells k) 31)).alloc (.cells (kkCells k) 31))
              have HB2' := Lib.hid ((hb.alloc hsr (.cells (kkCells k) 31)).alloc (by simp; omega) (.cells (kkCells k) 31))
              clear hh hb hr hk
              go_wp2_with fail
              refine (l6_same HS.out 0 ⟨0, 0, 0, 0⟩).mono ?_
              rintro e w4 ⟨rfl, hq4⟩
              have HN4 := Lib.hid (HN'.out.below hq4 HN'.out.lt)
              have HB4 := Lib.hid (HB2'.out.trans (hq4.mono (by simp; omega)))
              clear hq4 HN' HB2' HS c0 c1 c2 c3 c4 c5 c6 c7 c8 c9
              go_wp2
              go_roundw
              case rel => exact ⟨m + 1, by omega, by go_num, HN4.out, HB4.out⟩
              case measure => simp [intOf]; omega
            · have HB := Lib.hid hb
              clear hb hh
              go_wp2_with (at_make; refine wpList_make_full _ rfl _ _ 32 rfl B 31 i0 (.agg #[.int .i64 0, .int .u8 0, .int .u8 0, .int .u8 0, .int .u8 0, .int .i64 0, .int .i64 0, .int .i64 0, .int .i64 0, .int .i64 0]) 10 Try.underlying32 hi hz0 hz1 _ _ _ _ 33 rfl rfl rfl rfl (by rw [hz2]; decide) (by decide) hsr ?_)
              intro w3 hown3 hg3
              rw [made33c] at hown3
              have hs3 : Csl w3 (.slice (some ⟨wr.heap.size, 0, none⟩) 33 33) (List.replicate 33 default) := Cown.sl (base := B) (ks := List.replicate 33 default) hown3 (by decide) zero33
              have HS3 := Lib.hid hs3
              have HB3 := Lib.hid (HB.out.grown hg3 hsr (fun k hk => by cases hk))
              clear hown3 hg3 hs3 HB
              go_wp2_with fail
              refine (l6_same HS3.out 0 ⟨0, 0, 0, 0⟩).mono ?_
              rintro e w4 ⟨rfl, hq4⟩
              have HB4 := Lib.hid (HB3.out.trans (hq4.mono (by have := HB3.out.size; have := HB0.out; omega)))
              clear hq4 HB3 HS3
              go_wp2_with fail
              refine (known6 _).mono ?_
              rintro e w5 ⟨rfl, hq5⟩
              have HB5 := Lib.hid (HB4.out.trans (hq5.mono (by have := HB4.out.size; have := HB0.out; omega)))
              clear hq5 HB4
              go_wp2
              go_ret
              exact ⟨rfl, HB5.out⟩

end Go.Proofs.Ytmbbhhaoiicegaa
