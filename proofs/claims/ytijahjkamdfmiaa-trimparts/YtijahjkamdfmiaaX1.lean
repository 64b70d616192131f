/- Contracts of trim.Span, trim.part and of the reference's Span: for all numbers and polys what the plain arithmetic says; of the memory nothing that was there turns. -/
import Derived.Test.YtijahjkamdfmiaaXMath
import Derived.Test.YtijahjkamdfmiaaN4
import Derived.Test.YtijahjkamdfmiaaWant
namespace Go.Proofs.Ytijahjkamdfmiaa
open Go Go.RowKit
open M

theorem t_span (f t : Int) (w : World) : Calls Try.prog 16 #[.int .i64 f, .int .i64 t] w fun e w' => e = .returned (.tuple #[.int .i64 (spA f t), .int .i64 (spB f t)]) ∧ w = w' := by
  obtain ⟨x, hx⟩ : ∃ x, sh f = x := ⟨_, rfl⟩
  obtain ⟨y, hy⟩ : ∃ y, sh t = y := ⟨_, rfl⟩
  have C1 : Hid (∀ w, Calls Try.prog 27 #[.int .i64 f, .int .i64 0, .int .i64 65536] w fun e w' => e = .returned (.int .i64 x) ∧ w = w') := Lib.hid (fun w => hx ▸ q_clamp f 0 65536 w)
  have C2 : Hid (∀ w, Calls Try.prog 27 #[.int .i64 t, .int .i64 0, .int .i64 65536] w fun e w' => e = .returned (.int .i64 y) ∧ w = w') := Lib.hid (fun w => hy ▸ q_clamp t 0 65536 w)
  unfold spA spB
  rw [hx, hy]
  clear hx hy
  by_cases h : y < x
  · rw [if_pos h, if_pos h]
    go_enter Try.func16, Try.ntmps16
    go_wp2_with fail
    refine (C1.out _).mono ?_
    rintro e w' ⟨rfl, rfl⟩
    go_wp2_with fail
    refine (C2.out _).mono ?_
    rintro e w' ⟨rfl, rfl⟩
    go_wp2
    refine bodyPost_ret (v := .tuple #[.int .i64 y, .int .i64 x]) (by simp [results, Try.results16, go_sem]) rfl ⟨rfl, rfl⟩
  · rw [if_neg h, if_neg h]
    go_enter Try.func16, Try.ntmps16
    go_wp2_with fail
    refine (C1.out _).mono ?_
    rintro e w' ⟨rfl, rfl⟩
    go_wp2_with fail
    refine (C2.out _).mono ?_
    rintro e w' ⟨rfl, rfl⟩
    go_wp2
    refine bodyPost_ret (v := .tuple #[.int .i64 x, .int .i64 y]) (by simp [results, Try.results16, go_sem]) rfl ⟨rfl, rfl⟩

theorem r9_span (f t : Int) (w : World) : Calls Try.prog 17 #[.int .i64 f, .int .i64 t] w fun e w' => e = .returned (.tuple #[.int .i64 (spA f t), .int .i64 (spB f t)]) ∧ w = w' := by
  obtain ⟨x, hx⟩ : ∃ x, sh f = x := ⟨_, rfl⟩
  obtain ⟨y, hy⟩ : ∃ y, sh t = y := ⟨_, rfl⟩
  have C1 : Hid (∀ w, Calls Try.prog 28 #[.int .i64 f, .int .i64 0, .int .i64 65536] w fun e w' => e = .returned (.int .i64 x) ∧ w = w') := Lib.hid (fun w => hx ▸ r_clamp f 0 65536 w)
  have C2 : Hid (∀ w, Calls Try.prog 28 #[.int .i64 t, .int .i64 0, .int .i64 65536] w fun e w' => e = .returned (.int .i64 y) ∧ w = w') := Lib.hid (fun w => hy ▸ r_clamp t 0 65536 w)
  unfold spA spB
  rw [hx, hy]
  clear hx hy
  by_cases h : y < x
  · rw [if_pos h, if_pos h]
    have h2 : ¬ x < y := by omega
    go_enter Try.func17, Try.ntmps17
    go_wp2_with fail
    refine (C1.out _).mono ?_
    rintro e w' ⟨rfl, rfl⟩
    go_wp2_with fail
    refine (C2.out _).mono ?_
    rintro e w' ⟨rfl, rfl⟩
    go_wp2
    refine bodyPost_ret (v := .tuple #[.int .i64 y, .int .i64 x]) (by simp [results, Try.results17, go_sem]; omega) rfl ⟨rfl, rfl⟩
  · rw [if_neg h, if_neg h]
    go_enter Try.func17, Try.ntmps17
    go_wp2_with fail
    refine (C1.out _).mono ?_
    rintro e w' ⟨rfl, rfl⟩
    go_wp2_with fail
    refine (C2.out _).mono ?_
    rintro e w' ⟨rfl, rfl⟩
    go_wp2
    refine bodyPost_ret (v := .tuple #[.int .i64 x, .int .i64 y]) (by simp [results, Try.results17, go_sem]; omega) rfl ⟨rfl, rfl⟩

/-- A poly's part is stored into a block of the call's own. -/
theorem part_put {w V w3 : World} {r : Nat} {l : Value} {ps : List Pt} {cs : Array Value} (hb : Below w.heap.size w V) (hl : w.heap.size ≤ r) (hr : Has V r cs 26) (hs : cs.size = 2) (ho : Pown w3 V.heap.size l ps) (hb3 : Below V.heap.size V w3) :
    Gives w false ps (.returned (.agg #[.bool false, l])) ((w3.setCell ⟨r, 0, none⟩ (.bool false)).setCell ⟨r, 1, none⟩ l) ∧ Has ((w3.setCell ⟨r, 0, none⟩ (.bool false)).setCell ⟨r, 1, none⟩ l) r #[.bool false, l] 26 := by
  have k3 := hr.below hb3 hr.lt
  refine ⟨⟨l, rfl, (ho.lower hb.size).kept (grownBy_set (grownBy_set (World.grownBy.refl _ _) _ _) _ _) (fun k hk e => by simp at hk; have := (ho.base k e).1; have := hr.lt; omega), ((hb.trans (hb3.mono hb.size)).setCell hl _).setCell hl _⟩, ?_⟩
  have := has_set (has_set k3 0 (.bool false)) 1 l
  match cs, hs with
  | ⟨[x, y]⟩, _ => simpa using this

set_option maxRecDepth 100000 in
set_option maxHeartbeats 2000000 in
theorem t_part (c : Bool) (a b : Int) {v : Value} {ps : List Pt} {w : World} (h : Psl w v ps) (h900 : ps.length ≤ 8796093022000) :
    Calls Try.prog 24 #[.agg #[.bool c, v], .int .i64 a, .int .i64 b] w (Gives w false (partP a b c ps)) := by
  obtain ⟨B, hB⟩ : ∃ B, w.heap.size = B := ⟨_, rfl⟩
  obtain ⟨W, hW⟩ : ∃ W, (w.alloc (.cells #[.bool c, v] 26)).alloc (.cells #[.bool false, .slice none 0 0] 26) = W := ⟨_, rfl⟩
  have ha : Has W B #[.bool c, v] 26 := by rw [← hW]; exact (has_new hB).alloc _
  have hr : Has W (B + 1) #[.bool false, .slice none 0 0] 26 := by rw [← hW]; exact has_new (by simp [hB])
  have hbl : Below w.heap.size w W := by rw [← hW]; exact ((Below.refl _ _).alloc (Nat.le_refl _) _).alloc (by simp) _
  have hs := h.below hbl (Nat.le_refl _)
  obtain ⟨ao, n, cap, ev⟩ : ∃ ao n cap, v = .slice ao n cap := by obtain ⟨ao, cap, e, _⟩ := h; exact ⟨_, _, _, e⟩
  subst ev
  have LE := Lib.hid (a_length c hs)
  have PT := Lib.hid (fun (w' : World) (hb : Below W.heap.size W w') => a_part c (mul (lengthL c ps) a) (mul (lengthL c ps) b) (hs.below hb (Nat.le_refl _)) h900)
  unfold partP
  obtain ⟨L, hL⟩ : ∃ L, lengthL c ps = L := ⟨_, rfl⟩
  rw [hL] at LE PT ⊢
  obtain ⟨R, hR⟩ : ∃ R, cutL c ps (mul L a) (mul L b) = R := ⟨_, rfl⟩
  rw [hR] at PT ⊢
  have HA := Lib.hid ha
  have HR := Lib.hid hr
  have HBL := Lib.hid hbl
  have HW := Lib.hid hW
  have HB := Lib.hid hB
  clear ha hr hbl hs hW hL hR h
  go_enter Try.func24, Try.ntmps24
  go_upto_region 1 with fail
  rw [HW.out]
  clear hB
  have a0 := HA.out.cell 0 _ rfl
  have a1 := HA.out.cell 1 _ rfl
  go_wp2_with fail
  refine LE.out.mono ?_
  rintro e w1 ⟨rfl, hq1⟩
  have B1 := Lib.hid hq1
  have KA := Lib.hid (HA.out.below hq1 HA.out.lt)
  clear hq1 a0 a1
  go_upto_region 2 with fail
  refine wp_region_make0 7 (by kernel_rfl) (by kernel_rfl) (by kernel_rfl) ?_
  apply Exists.intro
  refine ⟨fun R hR hN => ?_, ?_⟩
  · have A0 := fun z => LaterR.read (R := R) KA.out 0 _ rfl z
    have A1 := fun z => LaterR.read (R := R) KA.out 1 _ rfl z
    simp only [List.take_succ_cons, List.take_zero]
    repeat (go_big_quiet_step (first | (go_at_call 37; exact LaterR.calls hR (still (q_mul _ _ _)))))
    exact wpQuiet_nil rfl
  · intro w2 hb2
    simp only [List.drop_succ_cons, List.drop_zero]
    have B2 := Lib.hid (B1.out.trans (hb2.mono B1.out.size))
    go_wp2_with fail
    refine (PT.out _ B2.out).mono ?_
    rintro e w3 ⟨l, rfl, ho, hb3⟩
    have kr := HR.out.below B2.out HR.out.lt
    obtain ⟨g1, g2⟩ := part_put (w := w) (HBL.out.trans (B2.out.mono HBL.out.size)) (by have := HB.out; omega) kr rfl ho hb3
    have kr3 := kr.below hb3 kr.lt
    have c0 := kr3.cell 0 _ rfl
    have c1 := kr3.cell 1 _ rfl
    have f0 := has_fro kr3
    have G1 := Lib.hid g1
    obtain ⟨al, nl, cl, el⟩ : ∃ ao n cap, l = .slice ao n cap := by obtain ⟨ao, cap, e⟩ := ho.len; exact ⟨_, _, _, e⟩
    subst el
    have u0 := g2.cell 0 _ rfl
    have u1 := g2.cell 1 _ rfl
    clear g1 g2 kr kr3 hb3 ho hb2
    go_wp2
    refine bodyPost_ret (v := .agg #[.bool false, .slice al nl cl]) (by simp [results, Try.results24, go_sem, u0, u1]) rfl ?_
    exact G1.out

end Go.Proofs.Ytijahjkamdfmiaa
