/- The walk of mutoscopelaw13.ShapeMade: for whatever tape and tick it returns true: a tape's shape is right, its path is right and not empty; of the memory nothing that was there turns. -/
import Derived.Test.YtglbfpjjnboeaaaTV
import Derived.Test.YtglbfpjjnboeaaaSh5
import Derived.Test.YtglbfpjjnboeaaaSh6
import Derived.Test.YtglbfpjjnboeaaaQ8
import Derived.Test.YtglbfpjjnboeaaaTB7
import Derived.Test.YtglbfpjjnboeaaaKnSh
namespace Go.Proofs.Ytglbfpjjnboeaaa
open Go Go.RowKit
open M

/-- A tape's shape, stored whole in a block of its own behind the call: it lies there with its lists. -/
theorem shape_lies {w W w1 : World} {B S : Nat} {s : Shp} {z : Array Value} (hb : Below w.heap.size w W) (hB : w.heap.size = B) (hz : W.heap.size = B + 1) (hg : W.grownBy w1 (some B)) (hi : ShIn w1 s) (hS : w1.heap.size = S) :
    ShIn ((w1.alloc (.cells z 37)).setRow S (shC s)) s ∧ Has ((w1.alloc (.cells z 37)).setRow S (shC s)) S (shC s) 37 ∧ Below w.heap.size w ((w1.alloc (.cells z 37)).setRow S (shC s)) := by
  have b1 : Below w1.heap.size w1 ((w1.alloc (.cells z 37)).setRow S (shC s)) := below_setRow ((Below.refl _ _).alloc (Nat.le_refl _) _) (by omega)
  have b0 : Below w.heap.size w w1 := by rw [hB]; exact below_on (by rw [← hB]; exact hb) hg (by omega) (by omega)
  exact ⟨hi.below b1, has_setRow (has_new hS), b0.trans (b1.mono b0.size)⟩

set_option maxRecDepth 100000 in
set_option maxHeartbeats 8000000 in
theorem shapeMade_walk {w : World} (l1 : Value) (_ : Unit) (t : Int) (hN1 : Nums w l1) :
    Calls Try.prog 3 #[l1, .int .i64 t] w fun r w' => r = .returned (.bool true) ∧ Below w.heap.size w w' := by
  obtain ⟨B, hB⟩ : ∃ B, w.heap.size = B := ⟨_, rfl⟩
  obtain ⟨W, hW⟩ : ∃ W, w.alloc (.cells #[l1, .int .i64 0] 25) = W := ⟨_, rfl⟩
  have hb0 : Below w.heap.size w W := by rw [← hW]; exact (Below.refl _ _).alloc (Nat.le_refl _) _
  have T1 : Tp W B l1 := tp_start hN1 (by rw [← hW]; exact has_new hB) hb0 (by omega)
  have sz0 : W.heap.size = B + 1 := by rw [← hW]; simp [hB]
  obtain ⟨a1, n1, c1, rfl⟩ := hN1.shape
  have HB := Lib.hid hB
  have HW := Lib.hid hW
  have HB0 := Lib.hid hb0
  have SZ := Lib.hid sz0
  have TS := Lib.hid (t_shape _ _ _ T1)
  clear hb0 T1 hW hN1 sz0
  go_enter Try.func3, Try.ntmps3
  go_upto_region 2 with fail
  rw [HW.out]
  clear hB
  apply wp_region_lit
  refine wpList_plain rfl fun K hK => ?_
  have HK := Lib.hid hK
  clear hK
  go_wp2_with fail
  refine HK.out _ _ ?_
  clear HK
  refine wpList_plain rfl fun K hK => ?_
  have HK := Lib.hid hK
  clear hK
  go_wp2_with fail
  refine TS.out.mono ?_
  rintro e w1 ⟨s, rfl, md, hi, -, hg⟩
  have MD := Lib.hid md
  have HI := Lib.hid hi
  have HG := Lib.hid hg
  clear md hi hg TS
  refine HK.out _ _ ?_
  clear HK
  obtain ⟨S, hS⟩ : ∃ S, w1.heap.size = S := ⟨_, rfl⟩
  refine wpList_plain rfl fun K hK => ?_
  have HK := Lib.hid hK
  clear hK
  go_wp2_with fail
  refine HK.out _ _ ?_
  clear HK
  refine wpList_store_row rfl 37 _ _ rfl S (shC s) rfl rfl 37 _ (has_new hS) (by kernel_rfl) rfl HI.out.ones ?_
  apply wpList_nil
  have LS := shape_lies (z := shC (shF 0 0)) HB0.out HB.out SZ.out HG.out HI.out hS
  obtain ⟨X, hX⟩ : ∃ X, (w1.alloc (.cells (shC (shF 0 0)) 37)).setRow S (shC s) = X := ⟨_, rfl⟩
  rw [hX] at LS
  try rw [hX]
  obtain ⟨hi, hk, hb⟩ := LS
  have HX := Lib.hid hi
  have KX := Lib.hid hk
  have BX := Lib.hid hb
  clear hi hb hX hS HI HG HB0 SZ HW HB
  obtain ⟨u, hu⟩ : ∃ u, bits .and .i64 t 63 = u := ⟨_, rfl⟩
  obtain ⟨ps, hps⟩ : ∃ x, shAt s u = x := ⟨_, rfl⟩
  obtain ⟨c, hc⟩ : ∃ x, shCl s u = x := ⟨_, rfl⟩
  have tl := MD.out.tells u
  have C := Lib.hid (sh_at HX.out u ⟨by omega, by omega⟩ ⟨by omega, by omega⟩)
  have pa := MD.out.path u
  rw [hps, hc] at C pa
  have PA := Lib.hid pa
  clear tl pa hps hc
  go_wp2_with (refine wpList_load_row rfl 37 _ rfl S rfl 37 _ (0, 0) _ hk Try.underlying37 rfl (by kernel_rfl) ?_)
  clear hu
  refine C.out.mono ?_
  rintro e w2 ⟨l, rfl, hol, hbb⟩
  obtain ⟨ao, cap, rfl⟩ := hol.len
  obtain ⟨N, hN⟩ : ∃ N, ps.length = N := ⟨_, rfl⟩
  rw [hN] at hol ⊢
  obtain ⟨P, hP⟩ : ∃ g, w2.heap.size = g := ⟨_, rfl⟩
  obtain ⟨Y, hY⟩ : ∃ Y, w2.alloc (.cells #[.bool c, .slice ao N cap] 41) = Y := ⟨_, rfl⟩
  have bY : Below X.heap.size X Y := by rw [← hY]; exact hbb.alloc hbb.size _
  have kP : Has Y P #[.bool c, .slice ao N cap] 41 := by rw [← hY]; exact has_new hP
  have sl : Psl Y (.slice ao N cap) ps := by rw [← hY]; exact (hol.alloc _).sl (by have := PA.out; omega)
  have BY := Lib.hid (BX.out.trans (bY.mono BX.out.size))
  have KY := Lib.hid (KX.out.below bY KX.out.lt)
  have RT := Lib.hid (sh_right (HX.out.below bY))
  have RP := Lib.hid (fun w' (h : Below Y.heap.size Y w') => r8_right c (sl.below h (Nat.le_refl _)))
  rw [MD.out.ok] at RT
  simp only [PA.out.1] at RP
  have HY := Lib.hid hY
  have KP := Lib.hid kP
  have NP : Hid (0 < N) := Lib.hid (by rw [← hN]; exact PA.out.2.1)
  have ky := KY.out
  have NI : (0 : Int) < N := by have := NP.out; omega
  clear hol hbb hY bY kP sl C hk
  go_upto_region 4 with fail
  rw [HY.out]
  clear hN hP
  go_wp2_with (refine wpList_load_row rfl 37 _ rfl S rfl 37 _ (0, 0) _ ky Try.underlying37 rfl (by kernel_rfl) ?_)
  refine RT.out.mono ?_
  rintro e w3 ⟨rfl, q3⟩
  have kp := KP.out.below q3 KP.out.lt
  have p0 := kp.cell 0 _ rfl
  have p1 := kp.cell 1 _ rfl
  have B3 := Lib.hid q3
  clear q3 kp ky
  go_wp2_with fail
  refine (RP.out _ B3.out).mono ?_
  rintro e w4 ⟨rfl, q4⟩
  have B4 := Lib.hid (B3.out.trans (q4.mono B3.out.size))
  have kp := KP.out.below B4.out KP.out.lt
  have kk := KY.out.below B4.out KY.out.lt
  clear p0 p1 q4
  have p0 := kp.cell 0 _ rfl
  have p1 := kp.cell 1 _ rfl
  have f0 := kk.cell 0 (.int .i64 s.form) rfl
  have KN := Lib.hid (known13 w4)
  obtain ⟨fo, hfo⟩ : ∃ fo, s.form = fo := ⟨_, rfl⟩
  rw [hfo] at f0
  have FC : Hid (fo = 3 ∨ c = true) := Lib.hid (by rw [← hfo]; exact PA.out.2.2.2)
  have FIN := Lib.hid (fun w' (h : Below w4.heap.size w4 w') => BY.out.trans ((B4.out.trans (h.mono B4.out.size)).mono BY.out.size))
  clear kp kk hfo
  by_cases e3 : fo = 3
  · subst e3
    go_wp2_with fail
    refine KN.out.mono ?_
    rintro e w5 ⟨rfl, q5⟩
    have R := Lib.hid (FIN.out _ q5)
    clear q5
    go_wp2
    go_ret
    exact ⟨rfl, R.out⟩
  · have e3' : (fo == 3) = false := by simp [e3]
    obtain rfl : c = true := FC.out.resolve_left e3
    go_wp2_with fail
    refine KN.out.mono ?_
    rintro e w5 ⟨rfl, q5⟩
    have R := Lib.hid (FIN.out _ q5)
    clear q5
    go_wp2
    go_ret
    exact ⟨rfl, R.out⟩

end Go.Proofs.Ytglbfpjjnboeaaa
