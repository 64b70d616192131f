/- Contract of mutoscopelaw13.known: true; of the memory nothing that was there turns. -/
import Derived.Test.YtglbfpjjnboeaaaSh5
import Derived.Test.YtglbfpjjnboeaaaSh6
namespace Go.Proofs.Ytglbfpjjnboeaaa
open Go Go.RowKit
open M

def sh0 (f : Int) : Shp := ⟨f, 0, [], .slice none 0 0, [], .slice none 0 0, [], .slice none 0 0, false, 0, 0, ⟨0, 0, 0, 0⟩, ⟨0, 0, 0, 0⟩, ⟨0, 0⟩, ⟨0, 0⟩, 0, [], .slice none 0 0, false, [], .slice none 0 0, ⟨0, 0, 0, 0⟩, 0, [], .slice none 0 0, [], .slice none 0 0, [], .slice none 0 0⟩
theorem sh0_in (f : Int) (w : World) : ShIn w (sh0 f) :=
  ⟨Or.inl ⟨rfl, _, _, rfl⟩, Or.inl ⟨rfl, _, _, rfl⟩, ⟨none, 0, rfl, by simp [sh0], fun h => by simp [sh0] at h⟩, Or.inl ⟨rfl, _, _, rfl⟩, Or.inl ⟨rfl, _, _, rfl⟩, ⟨none, 0, rfl, by simp [sh0], fun h => by simp [sh0] at h⟩, Or.inl ⟨rfl, _, _, rfl⟩, Or.inl ⟨rfl, _, _, rfl⟩⟩
theorem sh0_ok : okS (sh0 0) = true := by decide
theorem sh4_ok : okS (sh0 4) = false := by decide
theorem star99 : (starL 99 5 6).length = 97 := by unfold starL; rw [straightL_length, starN_length]; rfl
theorem oval_length (w h : Int) : (ovalL w h).length = 13 := rfl
theorem rect_length (w h : Int) : (rectL w h).length = 13 := by unfold rectL; rw [straightL_length]; rfl
theorem rect_first : pt (rectL 131072 131072) 0 = ⟨-65536, -65536⟩ := by decide

set_option maxRecDepth 100000 in
set_option maxHeartbeats 4000000 in
theorem known13 (w : World) : Calls Try.prog 10 #[] w fun e w' => e = .returned (.bool true) ∧ Below w.heap.size w w' := by
  go_enter Try.func10, Try.ntmps10
  go_wp2_with fail
  refine (sh_rect 131072 131072 w ⟨by decide, by decide⟩ ⟨by decide, by decide⟩).mono ?_
  rintro e w1 ⟨v, rfl, ho, hq⟩
  obtain ⟨g, cap, rfl⟩ := ho.shape (by rw [rect_length]; decide)
  rw [rect_length]
  have row := (ho.sl (by rw [rect_length]; decide))
  obtain ⟨V, hV⟩ : ∃ V, w1.alloc (.cells #[.bool true, .slice (some ⟨g, 0, none⟩) 13 cap] 41) = V := ⟨_, rfl⟩
  have bV : Below w1.heap.size w1 V := by rw [← hV]; exact (Below.refl _ _).alloc (Nat.le_refl _) _
  have kV : Has V w1.heap.size #[.bool true, .slice (some ⟨g, 0, none⟩) 13 cap] 41 := by rw [← hV]; exact has_new rfl
  rw [rect_length] at row
  have rV := psl_row (row.below bV (Nat.le_refl _)) (by rw [rect_length]; decide)
  have p0 := rV.c0 0 (by rw [rect_length]; decide)
  have p1 := rV.c1 0 (by rw [rect_length]; decide)
  rw [rect_first] at p0 p1
  simp only [Nat.zero_mul, Nat.add_zero] at p0 p1
  obtain ⟨B, hB⟩ : ∃ B, w1.heap.size = B := ⟨_, rfl⟩
  rw [hB] at kV
  have a0 := kV.cell 0 _ rfl
  have a1 := kV.cell 1 _ rfl
  have QV := Lib.hid (hq.trans (bV.mono hq.size))
  have HV := Lib.hid hV
  clear ho hq row bV kV rV hV
  go_upto_region 2 with fail
  rw [HV.out]
  go_wp2_with fail
  refine (sh_star 99 5 6 _).mono ?_
  rintro e w2 ⟨v2, rfl, ho2, hq2⟩
  obtain ⟨ao, cp, rfl⟩ := ho2.len
  rw [star99]
  have fd : ∀ w, (Instr.field 41 (.agg #[.bool true, .slice ao 97 cp]) 1).run Try.prog w = .ok (.slice ao 97 cp) w := fun _ => by kernel_rfl
  have Q2 := Lib.hid (QV.out.trans (hq2.mono QV.out.size))
  clear ho2 hq2 p0 p1 a0 a1 QV hB HV
  go_wp2_with fail
  refine (sh_oval 1 1 _ ⟨by decide, by decide⟩ ⟨by decide, by decide⟩).mono ?_
  rintro e w3 ⟨v3, rfl, ho3, hq3⟩
  obtain ⟨ao3, cp3, rfl⟩ := ho3.len
  rw [oval_length]
  have fd3 : ∀ w, (Instr.field 41 (.agg #[.bool true, .slice ao3 13 cp3]) 1).run Try.prog w = .ok (.slice ao3 13 cp3) w := fun _ => by kernel_rfl
  have Q3 := Lib.hid (Q2.out.trans (hq3.mono Q2.out.size))
  clear ho3 hq3 Q2 fd
  go_wp2_with fail
  refine (sh_right (sh0_in 0 _)).mono ?_
  rw [sh0_ok]
  rintro e w4 ⟨rfl, hq4⟩
  have Q4 := Lib.hid (Q3.out.trans (hq4.mono Q3.out.size))
  clear hq4 Q3 fd3
  go_wp2_with fail
  refine (sh_right (sh0_in 4 _)).mono ?_
  rw [sh4_ok]
  rintro e w5 ⟨rfl, hq5⟩
  have Q5 := Lib.hid (Q4.out.trans (hq5.mono Q4.out.size))
  clear hq5 Q4
  go_wp2
  go_ret
  exact ⟨rfl, Q5.out⟩

end Go.Proofs.Ytglbfpjjnboeaaa
